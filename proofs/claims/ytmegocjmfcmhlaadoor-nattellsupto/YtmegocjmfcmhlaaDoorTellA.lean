import Derived.Test.YtmegocjmfcmhlaaDoorTellL
namespace Go.Proofs.YtmegocjmfcmhlaaDoor
open Go.RowKit Go.Shelf
attribute [local go_sem] Oper.semAt_some

theorem run_store_func (P : Program) (w : World) (a : Addr) (m : Mode) (f : Fn) (b c : Array Value) : (store a (.func f b c) m).run P w = stored P w a (.func f b c) m := run_store P w a _ m rfl
attribute [local go_sem] run_store_func
set_option maxRecDepth 100000 in
set_option maxHeartbeats 400000 in
theorem tells_walk {a : Option Addr} {na ca : Nat} {x L : Int} (w : World) (ha : Num w a na ca x 1048576) (l0 : -9223372036854775808 ≤ L) (l1 : L < 9223372036854775808) :
    Calls Tryd.prog 3 #[.slice a na ca, .int .i64 L] w fun e w' => e = .returned (.bool true) ∧ Below w.heap.size w w' := by
  obtain ⟨xs, rfl, hlx, hrx, hAx, hX, Kx⟩ := id ha
  have HAx : Hid (AllW xs) := hAx
  have HX : Hid (val xs = x) := hX
  have hx0 := ha.nn
  obtain ⟨m, rfl⟩ : ∃ m : Nat, x = (m : Int) := ⟨x.toNat, by omega⟩
  clear hAx hX hx0
  refine (callsIn_wide (n := 3)).1 ?_
  refine callsIn_of_wp_marks Tryd.func3 rfl trivial ?_ rfl
  simp only [Tryd.ntmps3, List.size_toArray, List.length_cons, List.length_nil, Nat.reduceAdd, Nat.reduceSub, Array.replicate_succ, Array.replicate_zero, List.push_toArray, List.append_toArray, List.nil_append, List.cons_append]
  gi_wp2_with fail
  have bL := Boxed.new w 3 (.int .i64 L)
  have bR := Boxed.new (w.alloc (.cells #[.int .i64 L] 3)) 4 (.bool false)
  rw [World.size_alloc] at bR
  replace bL := bL.alloc (.cells #[.bool false] 4)
  have HT : Below w.heap.size w ((w.alloc (.cells #[.int .i64 L] 3)).alloc (.cells #[.bool false] 4)) := below2 w _ _
  have hs0 : ((w.alloc (.cells #[.int .i64 L] 3)).alloc (.cells #[.bool false] 4)).heap.size = w.heap.size + 2 := by simp
  replace ha := ha.below HT
  replace hrx := hrx.below HT
  generalize ((w.alloc (.cells #[.int .i64 L] 3)).alloc (.cells #[.bool false] 4)) = W0 at *
  refine ⟨trivial, ?_⟩
  refine (callsIn_wide.2 (lend_any a xs.length ca xs W0 rfl hlx (by omega) hrx)).mono ?_
  rintro e w1 ⟨gf, cf, gw, cw, rfl, hl, hx⟩
  rw [hs0] at hl
  have bL1 : Boxed w1 w.heap.size 3 (.int .i64 L) := (hx.block _ (by omega)).trans bL
  have bR1 : Boxed w1 (w.heap.size + 1) 4 (.bool false) := (hx.block _ (by omega)).trans bR
  replace ha := ha.below hx
  replace HT := bel_tr HT hx
  have hs1 : w.heap.size + 2 ≤ w1.heap.size := by have := hx.size; omega
  have c0 : w1.cell? ⟨w.heap.size + 2, 0, none⟩ = some (.slice (some ⟨gf, 0, none⟩) (xs.length + 24) cf) := by have := hl.c0; rw [length_lendL] at this; exact this
  have c2 : w1.cell? ⟨w.heap.size + 2, 2, none⟩ = some (.int .i64 xs.length) := hl.c2
  have hcf : xs.length ≤ cf := by have := hl.rf.le; rw [length_lendL] at this; omega
  have hgfB : gf < w1.heap.size := hl.rf.lt
  have hgwB : gw < w1.heap.size := hl.rw.lt
  have hown : Num w1 (some ⟨gf, 0, none⟩) xs.length cf (m : Int) 1048576 := by
    obtain ⟨r1, r2, r3⟩ := (LB.own (b := ⟨w.heap.size + 2, gf, cf, gw, cw, xs.length⟩) hl rfl (Nat.zero_le _)).reads
    exact ⟨xs, rfl, r2, r3, HAx.out, HX.out, Kx⟩
  clear hx bL bR hrx hlx
  rw [hs0]
  clear hs0
  gi_wp2_with fail
  refine ⟨trivial, ?_⟩
  refine (callsIn_wide.2 (lnat_c (w.heap.size + 2) gf cf xs.length (xs.length + 24) w1 c0 c2 hcf)).mono ?_
  rintro e w2 ⟨rfl, m2, hw2⟩
  have hx2 : Below w1.heap.size w1 w2 := by rw [hw2]; exact belN (Below.refl _ _) m2
  have hs2 : w2.heap.size = w1.heap.size := by rw [hw2]; simp
  clear hw2
  gi_wp2_with fail
  refine ⟨trivial, ?_⟩
  refine (digits_in _ _ _ _ _).mono ?_
  rintro e w3 ⟨rfl, hw3⟩
  have bI := Boxed.new w2 23 (.slice (some ⟨gf, 0, none⟩) xs.length cf)
  have hx3 : Below w1.heap.size w1 w3 := by rw [hw3]; exact hx2.trans (((Below.refl _ w2).alloc (by omega) _))
  have hs3 : Hid (w3.heap.size = w1.heap.size + 1) := by show _ = _; rw [hw3, World.size_alloc, hs2]
  rw [← hw3, hs2] at bI
  rw [hs2]
  clear hw3 hx2 hs2 c0 c2
  have bQ := Boxed.new w3 27 (.func (.func 13) #[] #[.pointer (some ⟨w1.heap.size, 0, none⟩)])
  have hx4 : Below w1.heap.size w1 (w3.alloc (.cells #[.func (.func 13) #[] #[.pointer (some ⟨w1.heap.size, 0, none⟩)]] 27)) := bel_tr hx3 ((Below.refl _ w3).alloc (Nat.le_refl _) _)
  replace bI := bI.alloc (.cells #[.func (.func 13) #[] #[.pointer (some ⟨w1.heap.size, 0, none⟩)]] 27)
  have hnil : ∀ (w : World) (g : Value), (binOp .eql 27 (.func (.func 13) #[] #[g]) .nilFunc).run Tryd.prog w = .ok (.bool false) w := fun _ _ => by kernel_rfl
  gi_wp2_with fail
  generalize (w3.alloc (.cells #[.func (.func 13) #[] #[.pointer (some ⟨w1.heap.size, 0, none⟩)]] 27)) = w4 at *
  refine ⟨trivial, ?_⟩
  refine (callsIn_wide.2 (awake_any w4)).mono ?_
  rintro e w5 ⟨rfl, hx⟩
  have hs4 : w1.heap.size + 2 ≤ w4.heap.size := by have := bQ.lt; have := hs3.out; omega
  replace hx4 := bel_tr hx4 hx
  replace bI : Boxed w5 w1.heap.size 23 (.slice (some ⟨gf, 0, none⟩) xs.length cf) := (hx.block _ (by omega)).trans bI
  replace bQ : Boxed w5 (w1.heap.size + 1) 27 (.func (.func 13) #[] #[.pointer (some ⟨w1.heap.size, 0, none⟩)]) := by
    rw [hs3.out] at bQ; exact (hx.block _ (by omega)).trans bQ
  rw [hs3.out]
  have hs5 : w1.heap.size + 2 ≤ w5.heap.size := by have := hx.size; omega
  replace bL1 : Boxed w5 w.heap.size 3 (.int .i64 L) := (hx4.block _ (by omega)).trans bL1
  replace bR1 : Boxed w5 (w.heap.size + 1) 4 (.bool false) := (hx4.block _ (by omega)).trans bR1
  replace ha := ha.below hx4
  replace hown := hown.below hx4
  replace hl := hl.below hx4
  replace HT := bel_tr HT hx4
  clear hx hx3 hx4 hs4 hs3 hnil
  have c0 : w5.cell? ⟨w.heap.size + 2, 0, none⟩ = some (.slice (some ⟨gf, 0, none⟩) (xs.length + 24) cf) := by have := hl.c0; rw [length_lendL] at this; exact this
  have c2 : w5.cell? ⟨w.heap.size + 2, 2, none⟩ = some (.int .i64 xs.length) := hl.c2
  generalize hB1 : w1.heap.size = B1 at *
  clear hB1
  gi_wp2_with fail
  refine ⟨trivial, ?_⟩
  refine (callsIn_wide.2 (lnat_c (w.heap.size + 2) gf cf xs.length (xs.length + 24) w5 c0 c2 hcf)).mono ?_
  rintro e w6 ⟨rfl, m6, hw6⟩
  have hx : Below w5.heap.size w5 w6 := by rw [hw6]; exact belN (Below.refl _ _) m6
  clear hw6 c0 c2
  gi_wp2_with fail
  refine ⟨trivial, ?_⟩
  refine (callsIn_wide.2 (text_any w6 (hown.below hx) (by omega))).mono ?_
  rintro e w7 ⟨rfl, hy⟩
  replace hx := bel_tr hx hy
  clear hy
  gi_wp2_with fail
  refine ⟨trivial, ?_⟩
  refine (callsIn_wide.2 (rdigitsV w7 (ha.below hx) (by omega))).mono ?_
  rintro e w8 ⟨v8, rfl, hD, hDl, hy⟩
  have hRow := hD.row
  obtain ⟨oa, oc, rfl⟩ := hD.form
  have HDl : Hid ((decs m).length ≤ 20 * 1048576) := hDl
  have hs8 : B1 + 2 ≤ w7.heap.size := by have := hx.size; omega
  have bW := Boxed.new w8 32 (.slice oa (decs m).length oc)
  have hx9 : Below w5.heap.size w5 (w8.alloc (.cells #[.slice oa (decs m).length oc] 32)) := bel_tr (bel_tr hx hy) ((Below.refl _ w8).alloc (Nat.le_refl _) _)
  replace hD := hD.alloc (.cells #[.slice oa (decs m).length oc] 32)
  have hs87 : w7.heap.size ≤ w8.heap.size := hy.size
  gi_wp2_with fail
  generalize (w8.alloc (.cells #[.slice oa (decs m).length oc] 32)) = w9 at *
  refine ⟨trivial, ?_⟩
  refine (callsIn_wide.2 (rtextV w9 (ha.below hx9) (by omega))).mono ?_
  rintro e w10 ⟨rfl, hz⟩
  generalize hB2 : w8.heap.size = B2 at *
  have bW2 : Boxed w10 B2 32 (.slice oa (decs m).length oc) := (hz.block _ bW.lt).trans bW
  replace hx9 := bel_tr hx9 hz
  replace hD := hD.below hz
  replace bI : Boxed w10 B1 23 (.slice (some ⟨gf, 0, none⟩) xs.length cf) := (hx9.block _ (by omega)).trans bI
  replace bQ : Boxed w10 (B1 + 1) 27 (.func (.func 13) #[] #[.pointer (some ⟨B1, 0, none⟩)]) := (hx9.block _ (by omega)).trans bQ
  replace bL1 : Boxed w10 w.heap.size 3 (.int .i64 L) := (hx9.block _ (by omega)).trans bL1
  replace bR1 : Boxed w10 (w.heap.size + 1) 4 (.bool false) := (hx9.block _ (by omega)).trans bR1
  replace ha := ha.below hx9
  replace hown := hown.below hx9
  replace hl := hl.below hx9
  replace HT := bel_tr HT hx9
  clear hx hy hx9 hz bW
  have bK := Boxed.new w10 3 (.int .i64 0)
  have q1 := (bQ.alloc (.cells #[.int .i64 0] 3)).cell
  gi_wp2_with fail
  have hs10 : B2 < w10.heap.size := bW2.lt
  have hseq := digits_seq B1 bI.lt bI.cell hown (by omega)
  generalize hKK : w10.heap.size = K at *
  have hw0 : Below K w10 (w10.alloc (.cells #[.int .i64 0] 3)) := (Below.refl _ w10).alloc (by omega) _
  have hsz : (w10.alloc (.cells #[.int .i64 0] 3)).heap.size = K + 1 := by simp [hKK]
  have HDm : Hid (m = (m : Int).toNat) := by show _ = _; simp
  generalize (w10.alloc (.cells #[.int .i64 0] 3)) = w11 at *
  refine' range_one (gf := 13) (lb := #[.pointer (some ⟨B1, 0, none⟩)]) rfl rfl rfl trivial (enters_of Tryd.func13 (by kernel_rfl) rfl) hseq (by rw [hKK]; exact hw0) rfl
    (Told w10 K (decs m)) (Gone w10 K (decs m) (.exit 0) (fun pre => (pre.length : Int) = L)) (Told.own (by omega) (by omega)) (Gone.own (by omega) (by omega)) ⟨bK, hw0, List.nil_prefix⟩ _ ?assign ?body 0 (fun pre W => Told w10 K (decs m) pre W ∧ ((pre.length = (decs m).length) ∨ (pre.length : Int) = L)) (fun _ _ h => h) ?done ?stop ?cont
  case assign =>
    intro l m x W K hK
    gi_wp2
    exact hK
  case stop =>
    rintro c pre W h1 h2
    rcases h2 with h2 | ⟨rfl, h2, h3⟩
    · exact (h2 (by simpa using h1)).elim
    · exact ⟨rfl, h3, .inr h2⟩
  case done =>
    rintro ys W h1 h2
    obtain rfl : ys = decs m := by simpa using h1
    exact ⟨h2, .inl rfl⟩
  case body =>
    rintro l m' pre x W ⟨r, hr⟩ hlB hT x0 x9 hlt
    obtain ⟨tK, tB, tP⟩ := id hT
    have cK := tK.cell
    have fK := tK.frozen
    have bW3 : Boxed W B2 32 (.slice oa (decs m).length oc) := (tB.block _ hs10).trans bW2
    have bQ3 : Boxed W (B1 + 1) 27 (.func (.func 13) #[] #[.pointer (some ⟨B1, 0, none⟩)]) := (tB.block _ (by omega)).trans bQ
    have bL3 : Boxed W w.heap.size 3 (.int .i64 L) := (tB.block _ (by omega)).trans bL1
    have bR3 : Boxed W (w.heap.size + 1) 4 (.bool false) := (tB.block _ (by omega)).trans bR1
    have cW := bW3.cell
    have cQ := bQ3.cell
    have cL := bL3.cell
    have cR := bR3.cell
    have fR := bR3.frozen
    have hRowW : (Value.slice oa (decs m).length oc = .slice none 0 0 ∧ decs m = []) ∨ ∃ g cap, Value.slice oa (decs m).length oc = .slice (some ⟨g, 0, none⟩) (decs m).length cap ∧ (decs m).length ≤ cap ∧ w7.heap.size ≤ g ∧ g < K ∧ ∀ i, i < (decs m).length → W.cell? ⟨g, i, none⟩ = some (.int .i64 ((decs m).getD i 0)) := by
      rcases hD.row with h | ⟨g, cap, h1, h2, h3, h4, h5⟩
      · exact .inl h
      · exact .inr ⟨g, cap, h1, h2, h3, by omega, fun i hi => (tB.cell (p := ⟨g, i, none⟩) (by show g < K; omega)).trans (h5 i hi)⟩
    by_cases hlt2 : pre.length < (decs m).length
    · obtain ⟨g, cap, e1, hcap, -, hgK, hcells⟩ : ∃ g cap, Value.slice oa (decs m).length oc = .slice (some ⟨g, 0, none⟩) (decs m).length cap ∧ (decs m).length ≤ cap ∧ w7.heap.size ≤ g ∧ g < K ∧ ∀ i, i < (decs m).length → W.cell? ⟨g, i, none⟩ = some (.int .i64 ((decs m).getD i 0)) := by
        rcases hRowW with ⟨_, h⟩ | h
        · rw [h] at hlt2; simp at hlt2
        · exact h
      obtain ⟨rfl, rfl⟩ : oa = some ⟨g, 0, none⟩ ∧ oc = cap := by cases e1; exact ⟨rfl, rfl⟩
      have cD := hcells pre.length hlt2
      generalize hz : (decs m).getD pre.length 0 = z at cD
      have k1 : (pre.length : Int) < ((decs m).length : Int) := by omega
      have k2 : ¬ ((decs m).length : Int) ≤ (pre.length : Int) := by omega
      have k3 : (0 : Int) ≤ (pre.length : Int) := by omega
      have k4 : ((pre.length : Int)).toNat = pre.length := by omega
      by_cases hx : z = x
      · have hp := (pre_next tP).2 ⟨hlt2, hz.trans hx⟩
        rw [hx] at cD
        clear hx hz
        by_cases he : pre = []
        · subst he
          have bN := Boxed.new W 3 (.int .i64 0)
          have cQ2 := (bQ3.alloc (.cells #[.int .i64 0] 3)).cell
          simp only [List.length_nil] at cK cD k1 k2 k3 k4
          have kd : ¬ decs m = [] := by rintro h; rw [h] at hlt2; simp at hlt2
          have hsW : W.heap.size < (W.alloc (.cells #[.int .i64 0] 3)).heap.size := by simp
          have hKW : K ≤ W.heap.size := Nat.le_of_lt tK.lt
          have hr2 : (W.alloc (.cells #[.int .i64 0] 3)).heap[l]? = some (.loop r) := (Below.heap_alloc W _ l (Array.getElem?_eq_some_iff.1 hr).1).trans hr
          have hw2 : Below W.heap.size W (W.alloc (.cells #[.int .i64 0] 3)) := (Below.refl _ W).alloc (Nat.le_refl _) _
          gi_wp2_with fail
          generalize (W.alloc (.cells #[.int .i64 0] 3)) = W2 at *
          refine' range_in (gf := 13) (lb := #[.pointer (some ⟨B1, 0, none⟩)]) rfl hr2 rfl rfl trivial (enters_of Tryd.func13 (by kernel_rfl) rfl) (hseq.inRound l) (by rw [hKK]; exact tB.trans (hw2.mono hKW)) rfl
            (Told W W.heap.size (decs m)) (Gone W W.heap.size (decs m) .ret (fun _ => False)) (Told.own hsW (Nat.le_refl _)) (Gone.own hsW (Nat.le_refl _)) ⟨bN, hw2, List.nil_prefix⟩ _ ?assign2 ?body2 ?done2 ?stop2
          case assign2 =>
            intro l m x W K hK
            gi_wp2
            exact hK
          case stop2 =>
            rintro c pre W3 h1 h2
            rcases h2 with h2 | ⟨_, h2, _⟩
            · exact (h2 (by simpa using h1)).elim
            · exact h2.elim
          case body2 =>
            rintro l2 m2 pre x2 W3 - - hT3 y0 y9 hlt3
            obtain ⟨sK, sB, sP⟩ := id hT3
            have cK := sK.cell
            have fK := sK.frozen
            have cW := (box_bel bW3 sB).cell
            have cR := (box_bel bR3 sB).cell
            have fR := (box_bel bR3 sB).frozen
            by_cases hlt4 : pre.length < (decs m).length
            · have cD : W3.cell? ⟨g, pre.length, none⟩ = some (.int .i64 ((decs m).getD pre.length 0)) := (sB.cell (p := ⟨g, pre.length, none⟩) (by show g < W.heap.size; omega)).trans (hcells pre.length hlt4)
              generalize hz : (decs m).getD pre.length 0 = z at cD
              have k1 : (pre.length : Int) < ((decs m).length : Int) := by omega
              have k2 : ¬ ((decs m).length : Int) ≤ (pre.length : Int) := by omega
              have k3 : (0 : Int) ≤ (pre.length : Int) := by omega
              have k4 : ((pre.length : Int)).toNat = pre.length := by omega
              by_cases hx : z = x2
              · have hp := (pre_next sP).2 ⟨hlt4, hz.trans hx⟩
                rw [hx] at cD
                clear hx hz
                obtain ⟨t1, t2, t3⟩ := hT3.up hp (Below.refl _ W3) rfl
                have Ht1 := (show Hid _ from t1)
                have Ht2 := (show Hid _ from t2)
                have Ht3 := (show Hid _ from t3)
                have Hp := (show Hid _ from hp)
                clear t1 t2 t3 hp sP hT3 sK hcells hRowW tP hT tK
                generalize hkk : pre.length = k at *
                gi_wp2_with fail
                exact ⟨Ht2.out _, Ht3.out, Ht1.out⟩
              · have hx2 : ¬ x2 = z := fun h => hx h.symm
                have hp : ¬ pre ++ [x2] <+: decs m := fun h => hx (hz.symm.trans ((pre_next sP).1 h).2)
                have HP := (show Hid _ from hp)
                clear hcells hRowW hx sP hp hz tP hT tK
                gi_wp2_with fail
                exact ⟨(KeepsOthers.setCell _ _ _).from _, .inl HP.out⟩
            · have k1 : ((decs m).length : Int) ≤ (pre.length : Int) := by omega
              have hp : ¬ pre ++ [x2] <+: decs m := fun h => hlt4 ((pre_next sP).1 h).1
              have HP := (show Hid _ from hp)
              clear hRowW sP hp hcells tP hT tK
              gi_wp2_with fail
              exact ⟨(KeepsOthers.setCell _ _ _).from _, .inl HP.out⟩
          case done2 =>
            rintro ys W3 hys hT3
            obtain rfl : ys = decs m := by simpa using hys
            obtain ⟨sK, sB, -⟩ := hT3
            have cI := sK.cell
            have cW := (box_bel bW3 sB).cell
            have bK5 : Boxed W3 K 3 (.int .i64 0) := (sB.block _ tK.lt).trans tK
            have bL5 : Boxed W3 w.heap.size 3 (.int .i64 L) := (sB.block _ bL3.lt).trans bL3
            have cK5 := bK5.cell
            have fK5 := bK5.frozen
            have cK6 : (W3.setCell ⟨K, 0, none⟩ (.int .i64 1)).cell? ⟨K, 0, none⟩ = some (.int .i64 1) := (bK5.set _).cell
            have cL6 := (bL5.other (B' := K) (by omega) (.int .i64 1)).cell
            obtain ⟨t1, t2, t3⟩ := hT.up hp sB (v := .int .i64 1) rfl
            have Ht1 := (show Hid _ from t1)
            have Ht2 := (show Hid _ from t2)
            have Ht3 := (show Hid _ from t3)
            clear t1 t2 t3 hp hcells hRowW tP hT tK cK
            by_cases hL : L = 1
            · gi_wp2_with fail
              rw [hL]
              exact ⟨Ht2.out _, .inr ⟨rfl, rfl, Ht1.out⟩⟩
            · have hL2 : ¬ 1 = L := fun h => hL h.symm
              gi_wp2_with fail
              exact ⟨Ht2.out _, Ht3.out, Ht1.out⟩
        · have k0 : ¬ (pre.length : Int) = 0 := by have := List.length_pos_iff.2 he; omega
          obtain ⟨t1, t2, t3⟩ := hT.up hp (Below.refl _ W) rfl
          have cK2 : (W.setCell ⟨K, 0, none⟩ (.int .i64 (pre.length + 1))).cell? ⟨K, 0, none⟩ = some (.int .i64 (pre.length + 1)) := (tK.set _).cell
          have cL2 := (bL3.other (B' := K) (by omega) (.int .i64 (pre.length + 1))).cell
          have Ht1 := (show Hid _ from t1)
          have Ht2 := (show Hid _ from t2)
          have Ht3 := (show Hid _ from t3)
          have Hp := (show Hid _ from hp)
          have HtP := (show Hid _ from tP)
          have HT2 := (show Hid _ from hT)
          clear hcells hRowW t1 t2 t3 he hp tP hT tK
          generalize hkk : pre.length = k at *
          by_cases hL : (k : Int) + 1 = L
          · gi_wp2_with fail
            rw [hL] at Ht1 Ht2
            exact ⟨Ht2.out _, .inr ⟨rfl, by subst hkk; simpa using hL, Ht1.out⟩⟩
          · gi_wp2_with fail
            exact ⟨Ht2.out _, Ht3.out, Ht1.out⟩
      · have hx2 : ¬ x = z := fun h => hx h.symm
        have hp : ¬ pre ++ [x] <+: decs m := fun h => hx (hz.symm.trans ((pre_next tP).1 h).2)
        have HP := (show Hid _ from hp)
        clear hcells hRowW hx tP hp hz
        gi_wp2_with fail
        exact ⟨(KeepsOthers.setCell _ _ _).from _, .inl HP.out⟩
    · have k1 : ((decs m).length : Int) ≤ (pre.length : Int) := by omega
      have hp : ¬ pre ++ [x] <+: decs m := fun h => hlt2 ((pre_next tP).1 h).1
      have HP := (show Hid _ from hp)
      clear hRowW tP hp
      gi_wp2_with fail
      exact ⟨(KeepsOthers.setCell _ _ _).from _, .inl HP.out⟩
  case cont =>
    rintro D1 pre W11 hD1 ⟨⟨tK, tB, -⟩, hend⟩ hM1
    have tB' : Below w10.heap.size w10 W11 := by rw [hKK]; exact tB
    have hl0 := hl
    have hKW : K < W11.heap.size := tK.lt
    have cK := tK.cell
    replace bW2 := box_bel bW2 tB'
    replace bQ := box_bel bQ tB'
    replace bI := box_bel bI tB'
    replace bL1 := box_bel bL1 tB'
    replace bR1 := box_bel bR1 tB'
    replace hD := hD.below tB'
    replace hown := hown.below tB'
    replace hl := hl.below tB'
    replace HT := bel_tr HT tB'
    have cW := bW2.cell
    have cL := bL1.cell
    have q1 := (bQ.alloc (.cells #[.int .i64 0] 3)).cell
    have bA := Boxed.new W11 3 (.int .i64 0)
    have hwA : Below W11.heap.size W11 (W11.alloc (.cells #[.int .i64 0] 3)) := (Below.refl _ W11).alloc (Nat.le_refl _) _
    have hsA : W11.heap.size < (W11.alloc (.cells #[.int .i64 0] 3)).heap.size := by simp
    have hM1' := (show Hid _ from hM1)
    have hend' := (show Hid _ from hend)
    have hD1lt : D1 < W11.heap.size := (Array.getElem?_eq_some_iff.1 hM1).1
    have hB12 : B1 + 2 ≤ B2 := by omega
    clear hM1 tB bK hw0 hs8 hs87 hRow
    by_cases hE : (pre.length : Int) = ((decs m).length : Int)
    · gi_wp2_with fail
      generalize (W11.alloc (.cells #[.int .i64 0] 3)) = w12 at *
      refine' range_one (gf := 13) (lb := #[.pointer (some ⟨B1, 0, none⟩)]) rfl rfl rfl trivial (enters_of Tryd.func13 (by kernel_rfl) rfl) hseq (bel_tr tB' hwA) rfl
        (Told W11 W11.heap.size (decs m)) (Gone W11 W11.heap.size (decs m) .ret (fun _ => False)) (Told.own hsA (Nat.le_refl _)) (Gone.own hsA (Nat.le_refl _)) ⟨bA, hwA, List.nil_prefix⟩ _ ?assign ?body 4 (fun pre W => Told W11 W11.heap.size (decs m) pre W ∧ pre = decs m) (fun _ _ h => h) ?done ?stop ?cont
      case assign =>
        intro l m x W K hK
        gi_wp2
        exact hK
      case stop =>
        rintro c pre W h1 h2
        rcases h2 with h2 | ⟨_, h2, _⟩
        · exact (h2 (by simpa using h1)).elim
        · exact h2.elim
      case done =>
        rintro ys W h1 h2
        obtain rfl : ys = decs m := by simpa using h1
        exact ⟨h2, rfl⟩
      case body =>
        rintro l m' pre x W ⟨r, hr⟩ hlB hT x0 x9 hlt
        obtain ⟨tK, tB, tP⟩ := id hT
        have cK := tK.cell
        have fK := tK.frozen
        have cW := (box_bel bW2 tB).cell
        have cR := (box_bel bR1 tB).cell
        have fR := (box_bel bR1 tB).frozen
        by_cases hlt2 : pre.length < (decs m).length
        · obtain ⟨g, cap, e1, hcells⟩ := rowCells hD (Nat.le_refl _) (by rintro h; rw [h] at hlt2; simp at hlt2)
          rw [e1] at cW
          have cD : W.cell? ⟨g, pre.length, none⟩ = some (.int .i64 ((decs m).getD pre.length 0)) := (tB.cell (p := ⟨g, pre.length, none⟩) (hcells pre.length hlt2).1).trans (hcells pre.length hlt2).2
          generalize hz : (decs m).getD pre.length 0 = z at cD
          have k1 : (pre.length : Int) < ((decs m).length : Int) := by omega
          have k2 : ¬ ((decs m).length : Int) ≤ (pre.length : Int) := by omega
          have k3 : (0 : Int) ≤ (pre.length : Int) := by omega
          have k4 : ((pre.length : Int)).toNat = pre.length := by omega
          by_cases hx : z = x
          · have hp := (pre_next tP).2 ⟨hlt2, hz.trans hx⟩
            rw [hx] at cD
            clear hx hz
            obtain ⟨t1, t2, t3⟩ := hT.up hp (Below.refl _ W) rfl
            have Ht1 := (show Hid _ from t1)
            have Ht2 := (show Hid _ from t2)
            have Ht3 := (show Hid _ from t3)
            clear t1 t2 t3 hp tP hT tK hcells
            generalize hkk : pre.length = k at *
            gi_wp2_with fail
            exact ⟨Ht2.out _, Ht3.out, Ht1.out⟩
          · have hx2 : ¬ x = z := fun h => hx h.symm
            have hp : ¬ pre ++ [x] <+: decs m := fun h => hx (hz.symm.trans ((pre_next tP).1 h).2)
            have HP := (show Hid _ from hp)
            clear hcells hx tP hp hz hT tK
            gi_wp2_with fail
            exact ⟨(KeepsOthers.setCell _ _ _).from _, .inl HP.out⟩
        · have k1 : ((decs m).length : Int) ≤ (pre.length : Int) := by omega
          have hp : ¬ pre ++ [x] <+: decs m := fun h => hlt2 ((pre_next tP).1 h).1
          have HP := (show Hid _ from hp)
          clear tP hp hT tK
          gi_wp2_with fail
          exact ⟨(KeepsOthers.setCell _ _ _).from _, .inl HP.out⟩
      case cont =>
        rintro D2 pre W12 hD2 ⟨⟨tK, tB, -⟩, rfl⟩ hM2
        have hd1 := hM1'.out
        replace hd1 : W12.heap[D1]? = some (.deferred (some [])) := (tB.block _ (Array.getElem?_eq_some_iff.1 hd1).1).trans hd1
        replace bW2 := box_bel bW2 tB
        replace bQ := box_bel bQ tB
        replace bI := box_bel bI tB
        replace bR1 := box_bel bR1 tB
        replace hl := hl.below tB
        replace HT := bel_tr HT tB
        generalize hK2 : W11.heap.size = Ka at *
        have hd2 := hM2
        have hD12 : D1 < D2 := by omega
        clear hM2 hM1' hD hown cK cW cL q1 bA hwA hseq tB' bL1 ha hend'
        gi_wp2_with fail
        refine ⟨trivial, ?_⟩
        refine (callsIn_wide.2 (keptG W12 ⟨w.heap.size + 2, gf, cf, gw, cw, xs.length⟩ xs hl (by omega))).mono ?_
        rintro e w13 ⟨rfl, hx⟩
        replace hd1 : w13.heap[D1]? = some (.deferred (some [])) := (hx.block _ (Array.getElem?_eq_some_iff.1 hd1).1).trans hd1
        replace hd2 : w13.heap[D2]? = some (.deferred (some [])) := (hx.block _ (Array.getElem?_eq_some_iff.1 hd2).1).trans hd2
        replace tK := box_bel tK hx
        replace bW2 := box_bel bW2 hx
        replace bQ := box_bel bQ hx
        replace bI := box_bel bI hx
        replace bR1 := box_bel bR1 hx
        replace hl := hl.below hx
        replace HT := bel_tr HT hx
        clear hx
        gi_wp2_with fail
        refine ⟨trivial, ?_⟩
        refine (callsIn_wide.2 (turn_any w13 ⟨w.heap.size + 2, gf, cf, gw, cw, xs.length⟩ xs hl rfl HAx.out (by omega))).mono ?_
        rintro e w14 ⟨rfl, xt, hl', hxt, hAt, hx⟩
        have HAt := (show Hid _ from hAt)
        have hlf := hl.lf
        have hlw := hl.lw
        replace hd1 : w14.heap[D1]? = some (.deferred (some [])) := (hx.block _ (by show D1 ≠ gf; omega) (by show D1 ≠ gw; omega)).trans hd1
        replace hd2 : w14.heap[D2]? = some (.deferred (some [])) := (hx.block _ (by show D2 ≠ gf; omega) (by show D2 ≠ gw; omega)).trans hd2
        replace tK : Boxed w14 Ka 3 (.int .i64 (decs m).length) := (hx.block _ (by show Ka ≠ gf; omega) (by show Ka ≠ gw; omega)).trans tK
        replace bW2 : Boxed w14 B2 32 (.slice oa (decs m).length oc) := (hx.block _ (by show B2 ≠ gf; omega) (by show B2 ≠ gw; omega)).trans bW2
        replace bQ : Boxed w14 (B1 + 1) 27 (.func (.func 13) #[] #[.pointer (some ⟨B1, 0, none⟩)]) := (hx.block _ (by show B1 + 1 ≠ gf; omega) (by show B1 + 1 ≠ gw; omega)).trans bQ
        replace bI : Boxed w14 B1 23 (.slice (some ⟨gf, 0, none⟩) xs.length cf) := (hx.block _ (by show B1 ≠ gf; omega) (by show B1 ≠ gw; omega)).trans bI
        replace bR1 : Boxed w14 (w.heap.size + 1) 4 (.bool false) := (hx.block _ (by show w.heap.size + 1 ≠ gf; omega) (by show w.heap.size + 1 ≠ gw; omega)).trans bR1
        replace HT : Below w.heap.size w w14 := HT.trans (hx.below (by show w.heap.size ≤ gf; omega) (by show w.heap.size ≤ gw; omega))
        clear hx hl hAt
        have c0 : w14.cell? ⟨w.heap.size + 2, 0, none⟩ = some (.slice (some ⟨gf, 0, none⟩) (xs.length + 24) cf) := by have := hl'.c0; rw [length_lendL, hxt] at this; exact this
        have c2 : w14.cell? ⟨w.heap.size + 2, 2, none⟩ = some (.int .i64 xs.length) := hl'.c2
        have hcf : xs.length ≤ cf := by have := hl'.rf.le; rw [length_lendL] at this; omega
        have hv0 : 0 ≤ val xt := val_nn HAt.out
        obtain ⟨mt, hmt⟩ : ∃ mt : Nat, val xt = (mt : Int) := ⟨(val xt).toNat, by omega⟩
        have hown : Num w14 (some ⟨gf, 0, none⟩) xs.length cf (mt : Int) 1048576 := by
          obtain ⟨r1, r2, r3⟩ := (LB.own (b := ⟨w.heap.size + 2, gf, cf, gw, cw, xs.length⟩) hl' hxt.symm (Nat.zero_le _)).reads
          exact ⟨xt, hxt.symm, r2, r3, HAt.out, hmt, by omega⟩
        clear hl' hv0 hmt HAt hxt
        gi_wp2_with fail
        refine ⟨trivial, ?_⟩
        refine (callsIn_wide.2 (lnat_c (w.heap.size + 2) gf cf xs.length (xs.length + 24) w14 c0 c2 hcf)).mono ?_
        rintro e w15 ⟨rfl, m15, hw15⟩
        have hx : Below w14.heap.size w14 w15 := by rw [hw15]; exact belN (Below.refl _ _) m15
        clear hw15 c0 c2
        gi_wp2_with fail
        refine ⟨trivial, ?_⟩
        refine (callsIn_wide.2 (rdigitsV w15 (hown.below hx) (by omega))).mono ?_
        rintro e w16 ⟨v16, rfl, hD, hDl, hy⟩
        obtain ⟨ob, od, rfl⟩ := hD.form
        replace hx := bel_tr hx hy
        clear hy
        have bW4 := Boxed.new w16 32 (.slice ob (decs mt).length od)
        have hwT : Below w14.heap.size w14 (w16.alloc (.cells #[.slice ob (decs mt).length od] 32)) := bel_tr hx ((Below.refl _ w16).alloc (Nat.le_refl _) _)
        replace hD := hD.alloc (.cells #[.slice ob (decs mt).length od] 32)
        have hs16 : w14.heap.size ≤ w16.heap.size := hx.size
        replace hd1 : (w16.alloc (.cells #[.slice ob (decs mt).length od] 32)).heap[D1]? = some (.deferred (some [])) := (hwT.block _ (Array.getElem?_eq_some_iff.1 hd1).1).trans hd1
        replace hd2 : (w16.alloc (.cells #[.slice ob (decs mt).length od] 32)).heap[D2]? = some (.deferred (some [])) := (hwT.block _ (Array.getElem?_eq_some_iff.1 hd2).1).trans hd2
        replace tK := box_bel tK hwT
        replace bW2 := box_bel bW2 hwT
        replace bQ := box_bel bQ hwT
        replace bI := box_bel bI hwT
        replace bR1 := box_bel bR1 hwT
        replace hown := hown.below hwT
        replace HT := bel_tr HT hwT
        clear hwT hx
        have hd1' := (show Hid _ from hd1)
        have hd2' := (show Hid _ from hd2)
        clear hd1 hd2
        have HS : Hid (w16.heap.size + 1 = (w16.alloc (.cells #[.slice ob (decs mt).length od] 32)).heap.size) := by show _ = _; simp
        have q2 := (bQ.alloc (.cells #[.int .i64 0] 3)).cell
        have bA := Boxed.new (w16.alloc (.cells #[.slice ob (decs mt).length od] 32)) 3 (.int .i64 0)
        have hwA : Below (w16.alloc (.cells #[.slice ob (decs mt).length od] 32)).heap.size (w16.alloc (.cells #[.slice ob (decs mt).length od] 32)) ((w16.alloc (.cells #[.slice ob (decs mt).length od] 32)).alloc (.cells #[.int .i64 0] 3)) := (Below.refl _ (w16.alloc (.cells #[.slice ob (decs mt).length od] 32))).alloc (Nat.le_refl _) _
        have hsA : (w16.alloc (.cells #[.slice ob (decs mt).length od] 32)).heap.size < ((w16.alloc (.cells #[.slice ob (decs mt).length od] 32)).alloc (.cells #[.int .i64 0] 3)).heap.size := by simp
        have hseq := digits_seq B1 bI.lt bI.cell hown (by omega)
        gi_wp2_with fail
        rw [HS.out]
        generalize (w16.alloc (.cells #[.slice ob (decs mt).length od] 32)) = w17 at *
        have hs17 : w16.heap.size < w17.heap.size := bW4.lt
        generalize w16.heap.size = B4 at *
        generalize (w17.alloc (.cells #[.int .i64 0] 3)) = w18 at *
        refine' range_one (gf := 13) (lb := #[.pointer (some ⟨B1, 0, none⟩)]) rfl rfl rfl trivial (enters_of Tryd.func13 (by kernel_rfl) rfl) hseq hwA rfl
          (Told w17 w17.heap.size (decs mt)) (Gone w17 w17.heap.size (decs mt) .ret (fun _ => False)) (Told.own hsA (Nat.le_refl _)) (Gone.own hsA (Nat.le_refl _)) ⟨bA, hwA, List.nil_prefix⟩ _ ?assign ?body 6 (fun pre W => Told w17 w17.heap.size (decs mt) pre W ∧ pre = decs mt) (fun _ _ h => h) ?done ?stop ?cont
        case assign =>
          intro l m x W K hK
          gi_wp2
          exact hK
        case stop =>
          rintro c pre W h1 h2
          rcases h2 with h2 | ⟨_, h2, _⟩
          · exact (h2 (by simpa using h1)).elim
          · exact h2.elim
        case done =>
          rintro ys W h1 h2
          obtain rfl : ys = decs mt := by simpa using h1
          exact ⟨h2, rfl⟩
        case body =>
          rintro l m' pre x W ⟨r, hr⟩ hlB hT x0 x9 hlt
          obtain ⟨tK, tB, tP⟩ := id hT
          have cK := tK.cell
          have fK := tK.frozen
          have cW := (box_bel bW4 tB).cell
          have cR := (box_bel bR1 tB).cell
          have fR := (box_bel bR1 tB).frozen
          by_cases hlt2 : pre.length < (decs mt).length
          · obtain ⟨g, cap, e1, hcells⟩ := rowCells hD (Nat.le_refl _) (by rintro h; rw [h] at hlt2; simp at hlt2)
            rw [e1] at cW
            have cD : W.cell? ⟨g, pre.length, none⟩ = some (.int .i64 ((decs mt).getD pre.length 0)) := (tB.cell (p := ⟨g, pre.length, none⟩) (hcells pre.length hlt2).1).trans (hcells pre.length hlt2).2
            generalize hz : (decs mt).getD pre.length 0 = z at cD
            have k1 : (pre.length : Int) < ((decs mt).length : Int) := by omega
            have k2 : ¬ ((decs mt).length : Int) ≤ (pre.length : Int) := by omega
            have k3 : (0 : Int) ≤ (pre.length : Int) := by omega
            have k4 : ((pre.length : Int)).toNat = pre.length := by omega
            by_cases hx : z = x
            · have hp := (pre_next tP).2 ⟨hlt2, hz.trans hx⟩
              rw [hx] at cD
              clear hx hz
              obtain ⟨t1, t2, t3⟩ := hT.up hp (Below.refl _ W) rfl
              have Ht1 := (show Hid _ from t1)
              have Ht2 := (show Hid _ from t2)
              have Ht3 := (show Hid _ from t3)
              clear t1 t2 t3 hp tP hT tK hcells
              generalize hkk : pre.length = k at *
              gi_wp2_with fail
              exact ⟨Ht2.out _, Ht3.out, Ht1.out⟩
            · have hx2 : ¬ x = z := fun h => hx h.symm
              have hp : ¬ pre ++ [x] <+: decs mt := fun h => hx (hz.symm.trans ((pre_next tP).1 h).2)
              have HP := (show Hid _ from hp)
              clear hcells hx tP hp hz hT tK
              gi_wp2_with fail
              exact ⟨(KeepsOthers.setCell _ _ _).from _, .inl HP.out⟩
          · have k1 : ((decs mt).length : Int) ≤ (pre.length : Int) := by omega
            have hp : ¬ pre ++ [x] <+: decs mt := fun h => hlt2 ((pre_next tP).1 h).1
            have HP := (show Hid _ from hp)
            clear tP hp hT tK
            gi_wp2_with fail
            exact ⟨(KeepsOthers.setCell _ _ _).from _, .inl HP.out⟩
        case cont =>
          rintro D3 pre W18 hD3 ⟨⟨tI, tB, -⟩, rfl⟩ hd3
          have hd1 := hd1'.out
          have hd2 := hd2'.out
          have hD2lt : D2 < w17.heap.size := (Array.getElem?_eq_some_iff.1 hd2).1
          replace hd1 : W18.heap[D1]? = some (.deferred (some [])) := (tB.block _ (Array.getElem?_eq_some_iff.1 hd1).1).trans hd1
          replace hd2 : W18.heap[D2]? = some (.deferred (some [])) := (tB.block _ (Array.getElem?_eq_some_iff.1 hd2).1).trans hd2
          replace tK := box_bel tK tB
          replace bW2 := box_bel bW2 tB
          replace bW4 := box_bel bW4 tB
          replace bR1 := box_bel bR1 tB
          replace HT := bel_tr HT tB
          have cI := tI.cell
          have cK := tK.cell
          have cW := bW2.cell
          have cV := bW4.cell
          have cR := bR1.cell
          have fR := bR1.frozen
          have hd1' := (show Hid _ from hd1)
          have hd2' := (show Hid _ from hd2)
          have hd3' := (show Hid _ from hd3)
          have hD23 : D2 < D3 := by omega
          have cR2 : (W18.setCell ⟨w.heap.size + 1, 0, none⟩ (.bool true)).cell? ⟨w.heap.size + 1, 0, none⟩ = some (.bool true) := (bR1.set _).cell
          clear hd1 hd2 hd3
          gi_wp2_with fail
          have bR5 := bR1.set (.bool true)
          have HT5 : Below w.heap.size w (W18.setCell ⟨w.heap.size + 1, 0, none⟩ (.bool true)) := HT.setCell (by show w.heap.size ≤ w.heap.size + 1; omega) _
          have e3 := (Below.heap_setCell W18 ⟨w.heap.size + 1, 0, none⟩ (.bool true) D3 (by show D3 ≠ w.heap.size + 1; omega)).trans hd3'.out
          have e2 := (Below.heap_setCell W18 ⟨w.heap.size + 1, 0, none⟩ (.bool true) D2 (by show D2 ≠ w.heap.size + 1; omega)).trans hd2'.out
          have e1 := (Below.heap_setCell W18 ⟨w.heap.size + 1, 0, none⟩ (.bool true) D1 (by show D1 ≠ w.heap.size + 1; omega)).trans hd1'.out
          generalize (W18.setCell ⟨w.heap.size + 1, 0, none⟩ (.bool true)) = W19 at *
          obtain ⟨HT6, bR6, f2, f1⟩ := mark_off HT5 bR5 (D := D3) e3 (by omega) (by omega) (b := D2) (b' := D1) e2 e1 (by omega) (by omega)
          obtain ⟨HT7, bR7, f3, -⟩ := mark_off HT6 bR6 (D := D2) f2 (by omega) (by omega) (b := D1) (b' := D1) f1 f1 (by omega) (by omega)
          obtain ⟨HT8, bR8, -, -⟩ := mark_off HT7 bR7 (D := D1) f3 (by omega) (by omega) (b := D3) (b' := D3) ((World.putObj_heap_other (by omega)).trans (World.putObj_heap_same (Array.getElem?_eq_some_iff.1 e3).1)) ((World.putObj_heap_other (by omega)).trans (World.putObj_heap_same (Array.getElem?_eq_some_iff.1 e3).1)) (by omega) (by omega)
          refine ⟨by simp, .inl ⟨_, _, rfl, run_takeDeferred e3, ⟨by simp, .inl ⟨_, _, rfl, run_takeDeferred f2, ⟨by simp, .inl ⟨_, _, rfl, run_takeDeferred f3, ?_⟩⟩⟩⟩⟩⟩
          refine ⟨.bool true, ?_, rfl, HT8⟩
          have cR8 := bR8.cell
          simp [results, go_sem, Sem.run_bind, Result.andThen, cR8]
    · have hE2 : (pre.length : Int) = L := by have := hend'.out; omega
      have hE3 : ¬ L = ((decs m).length : Int) := by omega
      gi_wp2_with fail
      generalize (W11.alloc (.cells #[.int .i64 0] 3)) = w12 at *
      refine' range_one (gf := 13) (lb := #[.pointer (some ⟨B1, 0, none⟩)]) rfl rfl rfl trivial (enters_of Tryd.func13 (by kernel_rfl) rfl) hseq (bel_tr tB' hwA) rfl
        (Told W11 W11.heap.size (decs m)) (Gone W11 W11.heap.size (decs m) .ret (fun _ => False)) (Told.own hsA (Nat.le_refl _)) (Gone.own hsA (Nat.le_refl _)) ⟨bA, hwA, List.nil_prefix⟩ _ ?assign ?body 4 (fun pre W => Told W11 W11.heap.size (decs m) pre W ∧ pre = decs m) (fun _ _ h => h) ?done ?stop ?cont
      case assign =>
        intro l m x W K hK
        gi_wp2
        exact hK
      case stop =>
        rintro c pre W h1 h2
        rcases h2 with h2 | ⟨_, h2, _⟩
        · exact (h2 (by simpa using h1)).elim
        · exact h2.elim
      case done =>
        rintro ys W h1 h2
        obtain rfl : ys = decs m := by simpa using h1
        exact ⟨h2, rfl⟩
      case body =>
        rintro l m' pre x W ⟨r, hr⟩ hlB hT x0 x9 hlt
        obtain ⟨tK, tB, tP⟩ := id hT
        have cK := tK.cell
        have fK := tK.frozen
        have cW := (box_bel bW2 tB).cell
        have cR := (box_bel bR1 tB).cell
        have fR := (box_bel bR1 tB).frozen
        by_cases hlt2 : pre.length < (decs m).length
        · obtain ⟨g, cap, e1, hcells⟩ := rowCells hD (Nat.le_refl _) (by rintro h; rw [h] at hlt2; simp at hlt2)
          rw [e1] at cW
          have cD : W.cell? ⟨g, pre.length, none⟩ = some (.int .i64 ((decs m).getD pre.length 0)) := (tB.cell (p := ⟨g, pre.length, none⟩) (hcells pre.length hlt2).1).trans (hcells pre.length hlt2).2
          generalize hz : (decs m).getD pre.length 0 = z at cD
          have k1 : (pre.length : Int) < ((decs m).length : Int) := by omega
          have k2 : ¬ ((decs m).length : Int) ≤ (pre.length : Int) := by omega
          have k3 : (0 : Int) ≤ (pre.length : Int) := by omega
          have k4 : ((pre.length : Int)).toNat = pre.length := by omega
          by_cases hx : z = x
          · have hp := (pre_next tP).2 ⟨hlt2, hz.trans hx⟩
            rw [hx] at cD
            clear hx hz
            obtain ⟨t1, t2, t3⟩ := hT.up hp (Below.refl _ W) rfl
            have Ht1 := (show Hid _ from t1)
            have Ht2 := (show Hid _ from t2)
            have Ht3 := (show Hid _ from t3)
            clear t1 t2 t3 hp tP hT tK hcells
            generalize hkk : pre.length = k at *
            gi_wp2_with fail
            exact ⟨Ht2.out _, Ht3.out, Ht1.out⟩
          · have hx2 : ¬ x = z := fun h => hx h.symm
            have hp : ¬ pre ++ [x] <+: decs m := fun h => hx (hz.symm.trans ((pre_next tP).1 h).2)
            have HP := (show Hid _ from hp)
            clear hcells hx tP hp hz hT tK
            gi_wp2_with fail
            exact ⟨(KeepsOthers.setCell _ _ _).from _, .inl HP.out⟩
        · have k1 : ((decs m).length : Int) ≤ (pre.length : Int) := by omega
          have hp : ¬ pre ++ [x] <+: decs m := fun h => hlt2 ((pre_next tP).1 h).1
          have HP := (show Hid _ from hp)
          clear tP hp hT tK
          gi_wp2_with fail
          exact ⟨(KeepsOthers.setCell _ _ _).from _, .inl HP.out⟩
      case cont =>
        rintro D2 pre W12 hD2 ⟨⟨tK, tB, -⟩, rfl⟩ hM2
        have hd1 := hM1'.out
        replace hd1 : W12.heap[D1]? = some (.deferred (some [])) := (tB.block _ (Array.getElem?_eq_some_iff.1 hd1).1).trans hd1
        replace bW2 := box_bel bW2 tB
        replace bQ := box_bel bQ tB
        replace bI := box_bel bI tB
        replace bR1 := box_bel bR1 tB
        replace hl := hl.below tB
        replace HT := bel_tr HT tB
        generalize hK2 : W11.heap.size = Ka at *
        have hd2 := hM2
        have hD12 : D1 < D2 := by omega
        clear hM2 hM1' hD hown cK cW cL q1 bA hwA hseq tB' bL1 ha hend'
        gi_wp2_with fail
        refine ⟨trivial, ?_⟩
        refine (callsIn_wide.2 (keptG W12 ⟨w.heap.size + 2, gf, cf, gw, cw, xs.length⟩ xs hl (by omega))).mono ?_
        rintro e w13 ⟨rfl, hx⟩
        replace hd1 : w13.heap[D1]? = some (.deferred (some [])) := (hx.block _ (Array.getElem?_eq_some_iff.1 hd1).1).trans hd1
        replace hd2 : w13.heap[D2]? = some (.deferred (some [])) := (hx.block _ (Array.getElem?_eq_some_iff.1 hd2).1).trans hd2
        replace tK := box_bel tK hx
        replace bW2 := box_bel bW2 hx
        replace bQ := box_bel bQ hx
        replace bI := box_bel bI hx
        replace bR1 := box_bel bR1 hx
        replace hl := hl.below hx
        replace HT := bel_tr HT hx
        clear hx
        gi_wp2_with fail
        refine ⟨trivial, ?_⟩
        refine (callsIn_wide.2 (turn_any w13 ⟨w.heap.size + 2, gf, cf, gw, cw, xs.length⟩ xs hl rfl HAx.out (by omega))).mono ?_
        rintro e w14 ⟨rfl, xt, hl', hxt, hAt, hx⟩
        have HAt := (show Hid _ from hAt)
        have hlf := hl.lf
        have hlw := hl.lw
        replace hd1 : w14.heap[D1]? = some (.deferred (some [])) := (hx.block _ (by show D1 ≠ gf; omega) (by show D1 ≠ gw; omega)).trans hd1
        replace hd2 : w14.heap[D2]? = some (.deferred (some [])) := (hx.block _ (by show D2 ≠ gf; omega) (by show D2 ≠ gw; omega)).trans hd2
        replace tK : Boxed w14 Ka 3 (.int .i64 (decs m).length) := (hx.block _ (by show Ka ≠ gf; omega) (by show Ka ≠ gw; omega)).trans tK
        replace bW2 : Boxed w14 B2 32 (.slice oa (decs m).length oc) := (hx.block _ (by show B2 ≠ gf; omega) (by show B2 ≠ gw; omega)).trans bW2
        replace bQ : Boxed w14 (B1 + 1) 27 (.func (.func 13) #[] #[.pointer (some ⟨B1, 0, none⟩)]) := (hx.block _ (by show B1 + 1 ≠ gf; omega) (by show B1 + 1 ≠ gw; omega)).trans bQ
        replace bI : Boxed w14 B1 23 (.slice (some ⟨gf, 0, none⟩) xs.length cf) := (hx.block _ (by show B1 ≠ gf; omega) (by show B1 ≠ gw; omega)).trans bI
        replace bR1 : Boxed w14 (w.heap.size + 1) 4 (.bool false) := (hx.block _ (by show w.heap.size + 1 ≠ gf; omega) (by show w.heap.size + 1 ≠ gw; omega)).trans bR1
        replace HT : Below w.heap.size w w14 := HT.trans (hx.below (by show w.heap.size ≤ gf; omega) (by show w.heap.size ≤ gw; omega))
        clear hx hl hAt
        have c0 : w14.cell? ⟨w.heap.size + 2, 0, none⟩ = some (.slice (some ⟨gf, 0, none⟩) (xs.length + 24) cf) := by have := hl'.c0; rw [length_lendL, hxt] at this; exact this
        have c2 : w14.cell? ⟨w.heap.size + 2, 2, none⟩ = some (.int .i64 xs.length) := hl'.c2
        have hcf : xs.length ≤ cf := by have := hl'.rf.le; rw [length_lendL] at this; omega
        have hv0 : 0 ≤ val xt := val_nn HAt.out
        obtain ⟨mt, hmt⟩ : ∃ mt : Nat, val xt = (mt : Int) := ⟨(val xt).toNat, by omega⟩
        have hown : Num w14 (some ⟨gf, 0, none⟩) xs.length cf (mt : Int) 1048576 := by
          obtain ⟨r1, r2, r3⟩ := (LB.own (b := ⟨w.heap.size + 2, gf, cf, gw, cw, xs.length⟩) hl' hxt.symm (Nat.zero_le _)).reads
          exact ⟨xt, hxt.symm, r2, r3, HAt.out, hmt, by omega⟩
        clear hl' hv0 hmt HAt hxt
        gi_wp2_with fail
        refine ⟨trivial, ?_⟩
        refine (callsIn_wide.2 (lnat_c (w.heap.size + 2) gf cf xs.length (xs.length + 24) w14 c0 c2 hcf)).mono ?_
        rintro e w15 ⟨rfl, m15, hw15⟩
        have hx : Below w14.heap.size w14 w15 := by rw [hw15]; exact belN (Below.refl _ _) m15
        clear hw15 c0 c2
        gi_wp2_with fail
        refine ⟨trivial, ?_⟩
        refine (callsIn_wide.2 (rdigitsV w15 (hown.below hx) (by omega))).mono ?_
        rintro e w16 ⟨v16, rfl, hD, hDl, hy⟩
        obtain ⟨ob, od, rfl⟩ := hD.form
        replace hx := bel_tr hx hy
        clear hy
        have bW4 := Boxed.new w16 32 (.slice ob (decs mt).length od)
        have hwT : Below w14.heap.size w14 (w16.alloc (.cells #[.slice ob (decs mt).length od] 32)) := bel_tr hx ((Below.refl _ w16).alloc (Nat.le_refl _) _)
        replace hD := hD.alloc (.cells #[.slice ob (decs mt).length od] 32)
        have hs16 : w14.heap.size ≤ w16.heap.size := hx.size
        replace hd1 : (w16.alloc (.cells #[.slice ob (decs mt).length od] 32)).heap[D1]? = some (.deferred (some [])) := (hwT.block _ (Array.getElem?_eq_some_iff.1 hd1).1).trans hd1
        replace hd2 : (w16.alloc (.cells #[.slice ob (decs mt).length od] 32)).heap[D2]? = some (.deferred (some [])) := (hwT.block _ (Array.getElem?_eq_some_iff.1 hd2).1).trans hd2
        replace tK := box_bel tK hwT
        replace bW2 := box_bel bW2 hwT
        replace bQ := box_bel bQ hwT
        replace bI := box_bel bI hwT
        replace bR1 := box_bel bR1 hwT
        replace hown := hown.below hwT
        replace HT := bel_tr HT hwT
        clear hwT hx
        have hd1' := (show Hid _ from hd1)
        have hd2' := (show Hid _ from hd2)
        clear hd1 hd2
        have HS : Hid (w16.heap.size + 1 = (w16.alloc (.cells #[.slice ob (decs mt).length od] 32)).heap.size) := by show _ = _; simp
        have q2 := (bQ.alloc (.cells #[.int .i64 0] 3)).cell
        have bA := Boxed.new (w16.alloc (.cells #[.slice ob (decs mt).length od] 32)) 3 (.int .i64 0)
        have hwA : Below (w16.alloc (.cells #[.slice ob (decs mt).length od] 32)).heap.size (w16.alloc (.cells #[.slice ob (decs mt).length od] 32)) ((w16.alloc (.cells #[.slice ob (decs mt).length od] 32)).alloc (.cells #[.int .i64 0] 3)) := (Below.refl _ (w16.alloc (.cells #[.slice ob (decs mt).length od] 32))).alloc (Nat.le_refl _) _
        have hsA : (w16.alloc (.cells #[.slice ob (decs mt).length od] 32)).heap.size < ((w16.alloc (.cells #[.slice ob (decs mt).length od] 32)).alloc (.cells #[.int .i64 0] 3)).heap.size := by simp
        have hseq := digits_seq B1 bI.lt bI.cell hown (by omega)
        gi_wp2_with fail
        rw [HS.out]
        generalize (w16.alloc (.cells #[.slice ob (decs mt).length od] 32)) = w17 at *
        have hs17 : w16.heap.size < w17.heap.size := bW4.lt
        generalize w16.heap.size = B4 at *
        generalize (w17.alloc (.cells #[.int .i64 0] 3)) = w18 at *
        refine' range_one (gf := 13) (lb := #[.pointer (some ⟨B1, 0, none⟩)]) rfl rfl rfl trivial (enters_of Tryd.func13 (by kernel_rfl) rfl) hseq hwA rfl
          (Told w17 w17.heap.size (decs mt)) (Gone w17 w17.heap.size (decs mt) .ret (fun _ => False)) (Told.own hsA (Nat.le_refl _)) (Gone.own hsA (Nat.le_refl _)) ⟨bA, hwA, List.nil_prefix⟩ _ ?assign ?body 6 (fun pre W => Told w17 w17.heap.size (decs mt) pre W ∧ pre = decs mt) (fun _ _ h => h) ?done ?stop ?cont
        case assign =>
          intro l m x W K hK
          gi_wp2
          exact hK
        case stop =>
          rintro c pre W h1 h2
          rcases h2 with h2 | ⟨_, h2, _⟩
          · exact (h2 (by simpa using h1)).elim
          · exact h2.elim
        case done =>
          rintro ys W h1 h2
          obtain rfl : ys = decs mt := by simpa using h1
          exact ⟨h2, rfl⟩
        case body =>
          rintro l m' pre x W ⟨r, hr⟩ hlB hT x0 x9 hlt
          obtain ⟨tK, tB, tP⟩ := id hT
          have cK := tK.cell
          have fK := tK.frozen
          have cW := (box_bel bW4 tB).cell
          have cR := (box_bel bR1 tB).cell
          have fR := (box_bel bR1 tB).frozen
          by_cases hlt2 : pre.length < (decs mt).length
          · obtain ⟨g, cap, e1, hcells⟩ := rowCells hD (Nat.le_refl _) (by rintro h; rw [h] at hlt2; simp at hlt2)
            rw [e1] at cW
            have cD : W.cell? ⟨g, pre.length, none⟩ = some (.int .i64 ((decs mt).getD pre.length 0)) := (tB.cell (p := ⟨g, pre.length, none⟩) (hcells pre.length hlt2).1).trans (hcells pre.length hlt2).2
            generalize hz : (decs mt).getD pre.length 0 = z at cD
            have k1 : (pre.length : Int) < ((decs mt).length : Int) := by omega
            have k2 : ¬ ((decs mt).length : Int) ≤ (pre.length : Int) := by omega
            have k3 : (0 : Int) ≤ (pre.length : Int) := by omega
            have k4 : ((pre.length : Int)).toNat = pre.length := by omega
            by_cases hx : z = x
            · have hp := (pre_next tP).2 ⟨hlt2, hz.trans hx⟩
              rw [hx] at cD
              clear hx hz
              obtain ⟨t1, t2, t3⟩ := hT.up hp (Below.refl _ W) rfl
              have Ht1 := (show Hid _ from t1)
              have Ht2 := (show Hid _ from t2)
              have Ht3 := (show Hid _ from t3)
              clear t1 t2 t3 hp tP hT tK hcells
              generalize hkk : pre.length = k at *
              gi_wp2_with fail
              exact ⟨Ht2.out _, Ht3.out, Ht1.out⟩
            · have hx2 : ¬ x = z := fun h => hx h.symm
              have hp : ¬ pre ++ [x] <+: decs mt := fun h => hx (hz.symm.trans ((pre_next tP).1 h).2)
              have HP := (show Hid _ from hp)
              clear hcells hx tP hp hz hT tK
              gi_wp2_with fail
              exact ⟨(KeepsOthers.setCell _ _ _).from _, .inl HP.out⟩
          · have k1 : ((decs mt).length : Int) ≤ (pre.length : Int) := by omega
            have hp : ¬ pre ++ [x] <+: decs mt := fun h => hlt2 ((pre_next tP).1 h).1
            have HP := (show Hid _ from hp)
            clear tP hp hT tK
            gi_wp2_with fail
            exact ⟨(KeepsOthers.setCell _ _ _).from _, .inl HP.out⟩
        case cont =>
          rintro D3 pre W18 hD3 ⟨⟨tI, tB, -⟩, rfl⟩ hd3
          have hd1 := hd1'.out
          have hd2 := hd2'.out
          have hD2lt : D2 < w17.heap.size := (Array.getElem?_eq_some_iff.1 hd2).1
          replace hd1 : W18.heap[D1]? = some (.deferred (some [])) := (tB.block _ (Array.getElem?_eq_some_iff.1 hd1).1).trans hd1
          replace hd2 : W18.heap[D2]? = some (.deferred (some [])) := (tB.block _ (Array.getElem?_eq_some_iff.1 hd2).1).trans hd2
          replace tK := box_bel tK tB
          replace bW2 := box_bel bW2 tB
          replace bW4 := box_bel bW4 tB
          replace bR1 := box_bel bR1 tB
          replace HT := bel_tr HT tB
          have cI := tI.cell
          have cK := tK.cell
          have cW := bW2.cell
          have cV := bW4.cell
          have cR := bR1.cell
          have fR := bR1.frozen
          have hd1' := (show Hid _ from hd1)
          have hd2' := (show Hid _ from hd2)
          have hd3' := (show Hid _ from hd3)
          have hD23 : D2 < D3 := by omega
          have cR2 : (W18.setCell ⟨w.heap.size + 1, 0, none⟩ (.bool true)).cell? ⟨w.heap.size + 1, 0, none⟩ = some (.bool true) := (bR1.set _).cell
          clear hd1 hd2 hd3
          gi_wp2_with fail
          have bR5 := bR1.set (.bool true)
          have HT5 : Below w.heap.size w (W18.setCell ⟨w.heap.size + 1, 0, none⟩ (.bool true)) := HT.setCell (by show w.heap.size ≤ w.heap.size + 1; omega) _
          have e3 := (Below.heap_setCell W18 ⟨w.heap.size + 1, 0, none⟩ (.bool true) D3 (by show D3 ≠ w.heap.size + 1; omega)).trans hd3'.out
          have e2 := (Below.heap_setCell W18 ⟨w.heap.size + 1, 0, none⟩ (.bool true) D2 (by show D2 ≠ w.heap.size + 1; omega)).trans hd2'.out
          have e1 := (Below.heap_setCell W18 ⟨w.heap.size + 1, 0, none⟩ (.bool true) D1 (by show D1 ≠ w.heap.size + 1; omega)).trans hd1'.out
          generalize (W18.setCell ⟨w.heap.size + 1, 0, none⟩ (.bool true)) = W19 at *
          obtain ⟨HT6, bR6, f2, f1⟩ := mark_off HT5 bR5 (D := D3) e3 (by omega) (by omega) (b := D2) (b' := D1) e2 e1 (by omega) (by omega)
          obtain ⟨HT7, bR7, f3, -⟩ := mark_off HT6 bR6 (D := D2) f2 (by omega) (by omega) (b := D1) (b' := D1) f1 f1 (by omega) (by omega)
          obtain ⟨HT8, bR8, -, -⟩ := mark_off HT7 bR7 (D := D1) f3 (by omega) (by omega) (b := D3) (b' := D3) ((World.putObj_heap_other (by omega)).trans (World.putObj_heap_same (Array.getElem?_eq_some_iff.1 e3).1)) ((World.putObj_heap_other (by omega)).trans (World.putObj_heap_same (Array.getElem?_eq_some_iff.1 e3).1)) (by omega) (by omega)
          refine ⟨by simp, .inl ⟨_, _, rfl, run_takeDeferred e3, ⟨by simp, .inl ⟨_, _, rfl, run_takeDeferred f2, ⟨by simp, .inl ⟨_, _, rfl, run_takeDeferred f3, ?_⟩⟩⟩⟩⟩⟩
          refine ⟨.bool true, ?_, rfl, HT8⟩
          have cR8 := bR8.cell
          simp [results, go_sem, Sem.run_bind, Result.andThen, cR8]
end Go.Proofs.YtmegocjmfcmhlaaDoor

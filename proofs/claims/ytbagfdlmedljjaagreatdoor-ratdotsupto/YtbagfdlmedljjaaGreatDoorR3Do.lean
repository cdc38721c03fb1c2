import Derived.Test.YtbagfdlmedljjaaGreatDoorR3Su
import Derived.Test.YtbagfdlmedljjaaGreatDoorR3Pg
namespace Go.Proofs.YtbagfdlmedljjaaGreatDoor
open Go.RowKit

theorem bel_a {w w1 : World} {o : Obj} (h : Below w.heap.size w w1) : Below w.heap.size w (w1.alloc o) := bel_tr h (bel_d0 _ _)
theorem bel_dr {w w1 : World} {B : Nat} (h : Below B w w1) : Below B w w1.drew := belN h 1
theorem bel_s {w w1 : World} {B R : Nat} {u v : Value} (h : Below B w w1) (hR : B ≤ R) : Below B w ((w1.setCell ⟨R, 0, none⟩ u).setCell ⟨R, 1, none⟩ v) := h.trans ((((Off.refl _ _).set 0 u).set 1 v).below hR)
theorem GI.offX {w w' : World} {B R : Nat} {f : Bool} {c : Option Addr} {n k : Nat} {x : Int} {S : Nat} (h : GI w B (.agg #[.bool f, .slice c n k]) x S) (ho : Off R w w') (hR : (Value.slice c n k).ownBlock ≠ some R) : GI w' B (.agg #[.bool f, .slice c n k]) x S := by
  obtain ⟨a', n2, c2, h1, h2⟩ := h
  simp only [Value.agg.injEq, Array.mk.injEq, List.cons.injEq, and_true] at h1
  obtain ⟨h0, h1⟩ := h1
  simp only [Value.slice.injEq] at h1
  obtain ⟨rfl, rfl, rfl⟩ := h1
  exact ⟨c, n, k, by rw [h0], h2.offX ho hR⟩
theorem Num.valE {w : World} {a : Option Addr} {n c : Nat} {x y : Int} {S : Nat} (h : Num w a n c x S) (e : x = y) : Num w a n c y S := e ▸ h
/-- A region's end, told by itself. -/
theorem wp_cut {P : Program} {c : Code} {Q : Exit → Act → World → Prop} {a : Act} {w : World} (J : Act → Act → World → Prop) (h1 : c.wp P (fun e a' w' => e = .normal ∧ J a a' w') a w) (h2 : ∀ a' w', J a a' w' → Q .normal a' w') : c.wp P Q a w :=
  Code.wp_mono (fun e a' w' h => by obtain ⟨rfl, h⟩ := h; exact h2 a' w' h) h1
set_option maxHeartbeats 4000000 in
/-- rat.Dot of any two lists. -/
theorem dotQ (a b : Option Addr) (n m ca cb : Nat) (X Y : Nat → Rat) (Z Z' : Nat → Nat) (T q : Nat) (w : World) (hl : LQ w a n X Z) (hl' : LQ w b m Y Z') (hq : q = min n m) (hz : ∀ i, i < q → 1 ≤ Z i ∧ 1 ≤ Z' i ∧ T + (Z i + Z' i) ≤ 6000000) (hT1 : 1 ≤ T) (hsz : ∀ k, k ≤ q → SzR (rdot X Y k) T) (hn : n ≤ 1100000) (hT : TB w) :
    Calls Tryz.prog 8 #[.slice a n ca, .slice b m cb] w fun e w' => ∃ f c n1 k c' n' k', e = .returned (.agg #[.bool f, .slice c n1 k, .slice c' n' k']) ∧ GR w' w.heap.size f c n1 k c' n' k' (rdot X Y q) T ∧ Below w.heap.size w w' := by
  have R0 := var3_new w (.bool false) (.slice none 0 0) (.slice none 0 0) 28
  have hb0 := bel_d0 w (.cells #[.bool false, .slice none 0 0, .slice none 0 0] 28)
  have hsw : (w.alloc (.cells #[.bool false, .slice none 0 0, .slice none 0 0] 28)).heap.size = w.heap.size + 1 := by simp
  have HS : Hid (∀ k, k ≤ q → SzR (rdot X Y k) T) := hsz
  have hqI : min (n : Int) (m : Int) = (q : Int) := by omega
  have hqn : q ≤ n := by omega
  have hqm : q ≤ m := by omega
  clear hsz hq
  go_enter Tryz.func8, Tryz.ntmps8
  go_wp2_with fail
  generalize w.alloc (.cells #[.bool false, .slice none 0 0, .slice none 0 0] 28) = W0 at *
  refine (ofQ 0 _ (by decide) (by decide)).mono ?_
  rintro e w1 ⟨f0, c0, n0, k0, d0, m0, l0, rfl, G0, hx1⟩
  have hs1 := Below.size hx1
  replace G0 := (((G0.mono (B' := w.heap.size + 1) (by omega)).val (show ((0 : Int) : Rat) = rdot X Y 0 from rfl)).fit (HS.out 0 (Nat.zero_le _))).gx (R := w1.heap.size) (.inr (Nat.le_refl _))
  replace R0 := R0.below hx1
  replace hb0 := bel_tr hb0 hx1
  clear hx1
  have hz1 := bel_d0 w1 (.cells #[.bool f0, .slice c0 n0 k0, .slice d0 m0 l0] 28)
  have V0 := var3_new w1 (.bool f0) (.slice c0 n0 k0) (.slice d0 m0 l0) 28
  have hs2 : (w1.alloc (.cells #[.bool f0, .slice c0 n0 k0, .slice d0 m0 l0] 28)).heap.size = w1.heap.size + 1 := by simp
  replace G0 := G0.below hz1
  replace R0 := R0.below hz1
  replace hb0 := bel_tr hb0 hz1
  clear hz1
  go_wp2
  generalize w1.alloc (.cells #[.bool f0, .slice c0 n0 k0, .slice d0 m0 l0] 28) = W1 at *
  try rw [hqI]
  go_loopw [15] (fun s wr => ∃ (k : Nat) (f : Bool) (c : Option Addr) (n1 k1 : Nat) (d : Option Addr) (m l : Nat), k ≤ q ∧ s = .int .i64 k ∧ Var3 wr w1.heap.size (.bool f) (.slice c n1 k1) (.slice d m l) ∧ GX wr (w.heap.size + 1) w1.heap.size f c n1 k1 d m l (rdot X Y k) T ∧ Var3 wr w.heap.size (.bool false) (.slice none 0 0) (.slice none 0 0) ∧ Below w.heap.size w wr ∧ w1.heap.size + 1 ≤ wr.heap.size) (fun t _ => q - (intOf t).toNat)
  case atStart => exact ⟨0, _, _, _, _, _, _, _, Nat.zero_le _, rfl, V0, G0, R0, hb0, by omega⟩
  case round =>
    obtain ⟨k, f, c, n1, k1, d, md, ld, hk, rfl, V, G, R, hbel, hsw2⟩ := hrel
    clear V0 G0 R0 hb0
    by_cases hlt : k < q
    · have hkI : (k : Int) < (q : Int) := by omega
      have hkn : (k : Int) < (n : Int) := by omega
      have hkm : (k : Int) < (m : Int) := by omega
      obtain ⟨hz1, hz2, hz3⟩ := hz k hlt
      rcases hl with h0 | ⟨ba, oa, rfl, hl⟩
      · omega
      rcases hl' with h0 | ⟨bb, ob, rfl, hl'⟩
      · omega
      obtain ⟨pA, aA, nA, cA, dA, mA, lA, a0, a1, a2, hA⟩ := hl k (by omega)
      obtain ⟨pB, aB, nB, cB, dB, mB, lB, b0, b1, b2, hB⟩ := hl' k (by omega)
      replace a0 := kept_c hbel a0
      replace a1 := kept_c hbel a1
      replace a2 := kept_c hbel a2
      replace b0 := kept_c hbel b0
      replace b1 := kept_c hbel b1
      replace b2 := kept_c hbel b2
      replace hA := hA.below hbel
      replace hB := hB.below hbel
      have hkI2 : (k : Int) * 3 = ((k * 3 : Nat) : Int) := by omega
      have HS1 : Hid (SzR (rdot X Y k + X k * Y k) T) := HS.out (k + 1) hlt
      clear hl hl' hz HS
      have HB : ∀ w', Below wr.heap.size wr w' → w'.cell? ⟨ba, oa + k * 3, none⟩ = some (.bool pA) ∧ w'.cell? ⟨ba, oa + k * 3 + 1, none⟩ = some (.slice aA nA cA) ∧ w'.cell? ⟨ba, oa + k * 3 + 2, none⟩ = some (.slice dA mA lA) ∧ w'.cell? ⟨bb, ob + k * 3, none⟩ = some (.bool pB) ∧ w'.cell? ⟨bb, ob + k * 3 + 1, none⟩ = some (.slice aB nB cB) ∧ w'.cell? ⟨bb, ob + k * 3 + 2, none⟩ = some (.slice dB mB lB) :=
        fun w' h => ⟨kept_c h a0, kept_c h a1, kept_c h a2, kept_c h b0, kept_c h b1, kept_c h b2⟩
      go_wp2_with fail
      refine wp_cut (fun q0 a' w' => ∃ R7 R8 f2 c2 n2 k2 f3 c3 n3 k3 x2 y2, a' = ((((((((((((((q0.put (some 19) (.slice (some ⟨ba, oa, none⟩) n ca)).put (some 20) (.int .i64 k)).put (some 21) (.pointer (some ⟨ba, oa + k * 3, none⟩))).put (some 22) (.agg #[.bool pA, .slice aA nA cA, .slice dA mA lA])).put (some 23) (.slice (some ⟨bb, ob, none⟩) m cb)).put (some 24) (.int .i64 k)).put (some 25) (.pointer (some ⟨bb, ob + k * 3, none⟩))).put (some 26) (.agg #[.bool pB, .slice aB nB cB, .slice dB mB lB])).put (some 27) (.tuple #[.agg #[.bool f2, .slice c2 n2 k2], .agg #[.bool f3, .slice c3 n3 k3]])).put (some 18) (.tuple #[.agg #[.bool f2, .slice c2 n2 k2], .agg #[.bool f3, .slice c3 n3 k3]])).put (some 28) (.agg #[.bool f2, .slice c2 n2 k2])).put (some 29) (.agg #[.bool f3, .slice c3 n3 k3])).put (some 7) (.pointer (some ⟨R7, 0, none⟩))).put (some 8) (.pointer (some ⟨R8, 0, none⟩))) ∧ Var2 w' R7 (.bool f2) (.slice c2 n2 k2) ∧ Var2 w' R8 (.bool f3) (.slice c3 n3 k3) ∧ GI w' wr.heap.size (.agg #[.bool f2, .slice c2 n2 k2]) x2 (Z k + Z' k) ∧ GI w' wr.heap.size (.agg #[.bool f3, .slice c3 n3 k3]) y2 (Z k + Z' k) ∧ 0 < y2 ∧ Hid (Rat.divInt x2 y2 = X k * Y k) ∧ Below wr.heap.size wr w') ?_ ?_
      · go_region_held3 (fun w' => w'.cell? ⟨ba, oa + k * 3, none⟩ = some (.bool pA) ∧ w'.cell? ⟨ba, oa + k * 3 + 1, none⟩ = some (.slice aA nA cA) ∧ w'.cell? ⟨ba, oa + k * 3 + 2, none⟩ = some (.slice dA mA lA) ∧ w'.cell? ⟨bb, ob + k * 3, none⟩ = some (.bool pB) ∧ w'.cell? ⟨bb, ob + k * 3 + 1, none⟩ = some (.slice aB nB cB) ∧ w'.cell? ⟨bb, ob + k * 3 + 2, none⟩ = some (.slice dB mB lB))
          (with_reducible refine HB _ ?_; repeat' (first | with_reducible exact hc1 | with_reducible exact Below.refl _ _ | with_reducible refine bel_dr ?_ | with_reducible refine bel_a ?_ | with_reducible refine bel_s ?_ ?_ | omega))
          ((first
            | (go_at_call 38; go_fit (productG _ (hA.below (by first | exact bel_d1 _ | exact bel_d2 _ _ | exact bel_d3 _ _ _)) (hB.below (by first | exact bel_d1 _ | exact bel_d2 _ _ | exact bel_d3 _ _ _)) (by omega) (by omega) (by omega)); rintro e v1 ⟨f2, c2, n2, k2, f3, c3, n3, k3, x2, y2, rfl, T2, T3, hy2, hq2, hb1⟩; have HQ : Hid (Rat.divInt x2 y2 = X k * Y k) := hq2; have hc1 : Below wr.heap.size wr v1 := (by first | exact bel_tr (bel_d1 wr) hb1 | exact bel_tr (bel_d2 wr _) hb1 | exact bel_tr (bel_d3 wr _ _) hb1); have hsv1 := Below.size hc1; clear hq2; first | (have VP : Var2 v1 wr.heap.size (.bool false) (.slice none 0 0) := (box2 wr.drew (.bool false) (.slice none 0 0) (.bool false) (.slice none 0 0) 26).1.below hb1; have VQ : Var2 v1 (wr.heap.size + 1) (.bool false) (.slice none 0 0) := (box2 wr.drew (.bool false) (.slice none 0 0) (.bool false) (.slice none 0 0) 26).2.1.below hb1; obtain ⟨y0, y1, y2c, y3⟩ := id VP; obtain ⟨x0, x1, x2c, x3⟩ := id VQ) | (have VP : Var2 v1 wr.heap.size (.bool false) (.slice none 0 0) := (var2_new wr.drew (.bool false) (.slice none 0 0) 26).below hb1; obtain ⟨y0, y1, y2c, y3⟩ := id VP; have hn1 : ¬ wr.heap.size = v1.heap.size := Nat.ne_of_lt VP.lt; have hn2 : ¬ v1.heap.size = wr.heap.size := Nat.ne_of_gt VP.lt; obtain ⟨y4, y5, y6, y7⟩ := VP.alloc (.cells #[.bool false, .slice none 0 0] 26); obtain ⟨y8, y9, y10, y11⟩ := VP.alloc (.cells #[.bool f2, .slice c2 n2 k2] 26); obtain ⟨y12, y13, y14, y15⟩ := VP.alloc (.cells #[.bool f3, .slice c3 n3 k3] 26)) | skip)))
        · obtain ⟨V7, V8, hx, _⟩ := box2 v1 (.bool f2) (.slice c2 n2 k2) (.bool f3) (.slice c3 n3 k3) 26
          exact ⟨rfl, _, _, f2, c2, n2, k2, f3, c3, n3, k3, x2, y2, rfl, V7, V8, (T2.below hx).mono (by simp <;> omega), (T3.below hx).mono (by simp <;> omega), hy2, HQ, bel_tr hc1 hx⟩
        · obtain ⟨V8, V7, hx, _⟩ := box2 v1 (.bool f3) (.slice c3 n3 k3) (.bool f2) (.slice c2 n2 k2) 26
          exact ⟨rfl, _, _, f2, c2, n2, k2, f3, c3, n3, k3, x2, y2, rfl, V7, V8, (T2.below hx).mono (by simp <;> omega), (T3.below hx).mono (by simp <;> omega), hy2, HQ, bel_tr hc1 hx⟩
        · have hVP := VP.lt
          obtain ⟨V7, O7⟩ := (VP.alloc (.cells #[.bool false, .slice none 0 0] 26)).set (.bool f2) (.slice c2 n2 k2)
          have V8 := (var2_new v1 (.bool false) (.slice none 0 0) 26).off O7 (by omega)
          obtain ⟨V8', O8⟩ := V8.set (.bool f3) (.slice c3 n3 k3)
          exact ⟨rfl, _, _, f2, c2, n2, k2, f3, c3, n3, k3, x2, y2, rfl, V7.off O8 (by omega), V8', (((T2.below (bel_d0 v1 _)).off O7 (by simp <;> omega)).offX O8 (fun e => by have := T2.got.lt _ e; omega)).mono (by simp <;> omega), (((T3.below (bel_d0 v1 _)).off O7 (by simp <;> omega)).offX O8 (fun e => by have := T3.got.lt _ e; omega)).mono (by simp <;> omega), hy2, HQ, ((bel_a hc1).trans (O7.below (Nat.le_refl _))).trans (O8.below (by omega))⟩
        · obtain ⟨V7, O7⟩ := VP.set (.bool f2) (.slice c2 n2 k2)
          have V8 := VQ.off O7 (by omega)
          obtain ⟨V8', O8⟩ := V8.set (.bool f3) (.slice c3 n3 k3)
          exact ⟨rfl, _, _, f2, c2, n2, k2, f3, c3, n3, k3, x2, y2, rfl, V7.off O8 (by omega), V8', ((T2.off O7 (by simp <;> omega)).off O8 (by simp <;> omega)).mono (by simp <;> omega), ((T3.off O7 (by simp <;> omega)).off O8 (by simp <;> omega)).mono (by simp <;> omega), hy2, HQ, (hc1.trans (O7.below (Nat.le_refl _))).trans (O8.below (by omega))⟩
        · have hVP := VP.lt
          obtain ⟨V8, O8⟩ := (VP.alloc (.cells #[.bool f2, .slice c2 n2 k2] 26)).set (.bool f3) (.slice c3 n3 k3)
          have V7 := (var2_new v1 (.bool f2) (.slice c2 n2 k2) 26).off O8 (by omega)
          exact ⟨rfl, _, _, f2, c2, n2, k2, f3, c3, n3, k3, x2, y2, rfl, V7, V8, ((T2.below (bel_d0 v1 _)).off O8 (by simp <;> omega)).mono (by simp <;> omega), ((T3.below (bel_d0 v1 _)).off O8 (by simp <;> omega)).mono (by simp <;> omega), hy2, HQ, (bel_a hc1).trans (O8.below (Nat.le_refl _))⟩
        · obtain ⟨V7, O7⟩ := VQ.set (.bool f2) (.slice c2 n2 k2)
          have V8 := VP.off O7 (by omega)
          obtain ⟨V8', O8⟩ := V8.set (.bool f3) (.slice c3 n3 k3)
          exact ⟨rfl, _, _, f2, c2, n2, k2, f3, c3, n3, k3, x2, y2, rfl, V7.off O8 (by omega), V8', ((T2.off O7 (by simp <;> omega)).off O8 (by simp <;> omega)).mono (by simp <;> omega), ((T3.off O7 (by simp <;> omega)).off O8 (by simp <;> omega)).mono (by simp <;> omega), hy2, HQ, (hc1.trans (O7.below (by omega))).trans (O8.below (Nat.le_refl _))⟩
      rintro a' w2 ⟨R7, R8, f2, c2, n2, k2, f3, c3, n3, k3, x2, y2, rfl, V7, V8, G2, G3, hy2, HQ, hx⟩
      clear a0 a1 a2 b0 b1 b2 HB
      have hA3 : TR w2 f2 c2 n2 k2 c3 n3 k3 (X k * Y k) (Z k + Z' k) := ⟨x2, y2, G2.ti, G3.got.num.valE (by omega), HQ.out⟩
      clear G2 G3 HQ hA hB hy2
      have hs2w := Below.size hx
      replace V := V.below hx
      replace R := R.below hx
      replace G := G.below hx
      replace hT := hT.below (bel_tr hbel hx)
      replace hbel := bel_tr hbel hx
      clear hx
      simp only [Act.put, List.setIfInBounds_toArray, List.set_cons_zero, List.set_cons_succ]
      obtain ⟨v0, v1, v2, v3, v4, v5⟩ := id V
      obtain ⟨p0, p1, p2, p3⟩ := id V7
      obtain ⟨q0, q1, q2, q3⟩ := id V8
      go_wp2_with fail
      clear v0 v1 v2 v3 v4 v5 p0 p1 p2 p3 q0 q1 q2 q3 V7 V8
      refine (addQ _ G.1.tr hA3 (by omega) (by omega) (by omega) hT).mono ?_
      rintro e w3 ⟨g5, u5, m5, l5, u6, m6, l6, rfl, GG, h1⟩
      have hs3 := Below.size h1
      have GN := ((GG.fit HS1.out).gx (R := w1.heap.size) (.inl (by omega))).mono (B' := w.heap.size + 1) (by omega)
      replace V := V.below h1
      replace R := R.below h1
      replace hbel := bel_tr hbel h1
      clear h1 GG G hA3 hT HS1
      obtain ⟨v0, v1, v2, v3, v4, v5⟩ := id V
      obtain ⟨V', O⟩ := V.set (.bool g5) (.slice u5 m5 l5) (.slice u6 m6 l6)
      have R' := R.off O (by omega)
      have hbel' : Below w.heap.size w _ := hbel.trans (O.below (by omega))
      have GN' := GN.off O
      have hs4 := O.size
      clear V R hbel O GN
      go_wp2
      go_roundw
      case rel => first | exact ⟨k + 1, _, _, _, _, _, _, _, by omega, by go_num, V', GN', R', hbel', by omega⟩ | ((repeat apply Exists.intro); refine ⟨?_, rfl⟩; exact ⟨k + 1, _, _, _, _, _, _, _, by omega, by go_num, V', GN', R', hbel', by omega⟩)
      case measure => simp [intOf]; omega
    · have hkI : ¬ (k : Int) < (q : Int) := by omega
      obtain rfl : k = q := by omega
      clear hl hl' hz HS
      obtain ⟨v0, v1, v2, v3, v4, v5⟩ := id V
      obtain ⟨r0, r1, r2, r3, r4, r5⟩ := id R
      obtain ⟨VV, O⟩ := R.set (.bool f) (.slice c n1 k1) (.slice d md ld)
      have GF := G.1.off O (by omega)
      have hw := hbel.trans (O.below (by omega))
      clear R O G hbel V
      go_wp2
      refine bodyPost_ret (v := .agg #[.bool f, .slice c n1 k1, .slice d md ld]) (by simp [results, Tryz.results8, go_sem, VV.c0, VV.c1, VV.c2]) rfl ?_
      replace GF := GF.mono (B' := w.heap.size) (by omega)
      cases f
      · exact .inl ⟨_, _, _, _, _, _, rfl, GF, hw⟩
      · exact .inr ⟨_, _, _, _, _, _, rfl, GF, hw⟩
end Go.Proofs.YtbagfdlmedljjaaGreatDoor

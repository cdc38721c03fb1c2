import Derived.Test.YtbagfdlmedljjaaGreatDoorR3S
import Derived.Test.YtbagfdlmedljjaaGreatDoorR3SM
import Derived.Test.YtbagfdlmedljjaaGreatDoorR3Do
import Derived.Test.YtbagfdlmedljjaaGreatDoorR3Rl
namespace Go.Proofs.YtbagfdlmedljjaaGreatDoor
open Go.RowKit

/-- Two lists in two blocks. -/
def NE (u v : Value) : Prop := ∀ g, u.ownBlock = some g → v.ownBlock = some g → False
theorem NE.symm {u v : Value} (h : NE u v) : NE v u := fun g a b => h g b a
theorem NE.nil (v : Value) : NE (.slice none 0 0) v := fun g a _ => by simp [Value.ownBlock] at a
theorem NE.grown {u v : Value} {g1 n c H H' : Nat} (N : NE u v) (hv : ∀ g, v.ownBlock = some g → g < H) (hat : u.ownBlock = some g1 ∨ g1 = H') (hH : H ≤ H') : NE (.slice (some ⟨g1, 0, none⟩) n c) v := by
  intro g e1 e2
  have e3 : g1 = g := by simpa [Value.ownBlock] using e1
  subst e3
  rcases hat with h | h
  · exact N _ h e2
  · have := hv _ e2; omega
/-- 'append(v, x)' at a plain region: x is told in whatever way. -/
theorem wpList_appendT (w : World) {ops : Array Oper} {rest : List Oper} {o : Oper} {a : Act} {Q : Exit → Act → World → Prop} (hgd : o.guard = none) (s x : Operand)
    (ho : o.op = .call { callee := .builtin .append, args := #[s, x], argTypes := #[22, 22] }) (B : Nat) (v : Value) (n : Nat) (X : Nat → Rat) (S : Nat) (hs : a.eval s = v) (hown : RL w B v n X S) (h c : Nat) (hx : a.eval x = .slice (some ⟨h, 0, none⟩) 1 c)
    (f : Bool) (c1 : Option Addr) (n1 k1 : Nat) (c2 : Option Addr) (n2 k2 : Nat) (r : Rat) (K : Nat) (hc : w.cell? ⟨h, 0, none⟩ = some (.bool f) ∧ w.cell? ⟨h, 1, none⟩ = some (.slice c1 n1 k1) ∧ w.cell? ⟨h, 2, none⟩ = some (.slice c2 n2 k2)) (hG : ∀ w', Below B w w' → TR w' f c1 n1 k1 c2 n2 k2 r K)
    (hlen : n ≤ 1000000000000) (hB : B ≤ w.heap.size) (H : Nat) (hH : w.heap.size = H)
    (hK : ∀ g cap w', LQ w' (some ⟨g, 0, none⟩) (n + 1) (fun i => if i < n then X i else r) (fun i => if i < n then S else K) → w.grownBy w' v.ownBlock → Below B w w' → wpList Tryz.prog ops Q rest (a.put o.dst (.slice (some ⟨g, 0, none⟩) (n + 1) cap)) w') :
    wpList Tryz.prog ops Q (o :: rest) a w := by
  have hrow : ∀ k, v.ownBlock = some k → B ≤ k := fun k hk => (hown.lt k hk).1
  obtain ⟨vs, h1, h2⟩ := hown
  obtain ⟨i0, z, hi, hz, hs3, hb56, hz3⟩ := info3
  refine wpList_append_lies w hgd s x 22 ho B 28 i0 z 3 56 Tryz.underlying22 hi hz hs3 hb56 hz3 (by decide) v n vs hs h1 ⟨h, 0, none⟩ 1 c [.bool f, .slice c1 n1 k1, .slice c2 n2 k2] hx rfl ?_ (fun u hu => by simp at hu; rcases hu with rfl | rfl | rfl <;> rfl) (by decide) (by unfold maxLen; omega) (by omega) hB H hH ?_
  · intro j u hj
    match j, hj with
    | 0, hj => simp at hj; subst hj; simpa [Addr.add] using hc.1
    | 1, hj => simp at hj; subst hj; simpa [Addr.add] using hc.2.1
    | 2, hj => simp at hj; subst hj; simpa [Addr.add] using hc.2.2
  · intro g cap w' r1 r2 r3 r4
    have hbel : Below B w w' := grown_below r2 hB hrow
    refine hK g cap w' (.inr ⟨g, 0, rfl, fun i hi => ?_⟩) r2 hbel
    rcases r1.2 with ⟨e1, _⟩ | ⟨g', cap', cur, e1, _, hg, _, _, _, ht⟩
    · cases e1
    · have eg : g = g' := by simp only [Value.slice.injEq, Option.some.injEq, Addr.mk.injEq] at e1; exact e1.1.1
      subst eg
      rcases (by omega : i < n ∨ i = n) with hi | rfl
      · obtain ⟨p, a, na, ca, d, nd, cd, g1, g2, g3, g4⟩ := h2 i hi
        have e : vs.length = n * 3 := h1.1
        simp only [hi, if_true]
        refine ⟨p, a, na, ca, d, nd, cd, ?_, ?_, ?_, (g4.grow3 h1 r2).tr⟩
        · rw [Nat.zero_add]; exact row_cell hg ht (by rw [List.getElem?_append_left (by omega)]; exact g1)
        · rw [Nat.zero_add]; exact row_cell hg ht (by rw [List.getElem?_append_left (by omega)]; exact g2)
        · rw [Nat.zero_add]; exact row_cell hg ht (by rw [List.getElem?_append_left (by omega)]; exact g3)
      · obtain ⟨e1, e2, e3⟩ := vs_snoc (x := .bool f) (y := .slice c1 n1 k1) (z := .slice c2 n2 k2) h1.1
        simp only [Nat.lt_irrefl, if_false]
        refine ⟨f, c1, n1, k1, c2, n2, k2, ?_, ?_, ?_, hG w' hbel⟩
        · rw [Nat.zero_add]; exact row_cell hg ht e1
        · rw [Nat.zero_add]; exact row_cell hg ht e2
        · rw [Nat.zero_add]; exact row_cell hg ht e3
theorem rdot_comm (X Y : Nat → Rat) (n : Nat) : rdot Y X n = rdot X Y n := rsum_congr fun _ _ => Rat.mul_comm _ _
theorem rdot_scale (X Y : Nat → Rat) (k : Rat) (n : Nat) : rdot (fun i => X i * k) Y n = rdot X Y n * k := by
  unfold rdot
  rw [← rsum_mul]
  exact rsum_congr fun _ _ => by rw [Rat.mul_assoc, Rat.mul_comm k, Rat.mul_assoc]
theorem rdot_both (X Y : Nat → Rat) (k : Rat) (n : Nat) : rdot (fun i => X i + X i * k) Y n = rdot X Y n + rdot X Y n * k := by
  rw [← rdot_scale]
  unfold rdot
  rw [← rsum_add]
  exact rsum_congr fun _ _ => by rw [Rat.add_mul]
theorem rdot_ones (X : Nat → Rat) (n : Nat) : rdot X (fun _ => ((1 : Int) : Rat)) n = rsum X n := rsum_congr fun _ _ => by rw [show ((1 : Int) : Rat) = 1 from rfl, Rat.mul_one]
theorem rdot_more (X : Nat → Rat) (r : Rat) {n j : Nat} (hj : j ≤ n) : rdot X (fun i => if i < n then ((1 : Int) : Rat) else r) j = rsum X j := rsum_congr fun i hi => by
  simp only [show i < n by omega, if_true]
  rw [show ((1 : Int) : Rat) = 1 from rfl, Rat.mul_one]
theorem bel_s3 {w w1 : World} {B R : Nat} {u v z : Value} (h : Below B w w1) (hR : B ≤ R) : Below B w (((w1.setCell ⟨R, 0, none⟩ u).setCell ⟨R, 1, none⟩ v).setCell ⟨R, 2, none⟩ z) := h.trans (((((Off.refl _ _).set 0 u).set 1 v).set 2 z).below hR)
set_option maxRecDepth 100000 in
set_option maxHeartbeats 20000000 in
theorem dots_walk {aA aB : Option Addr} {nA cA nB cB : Nat} {p : Bool} {a : Option Addr} {na ca : Nat} {d : Option Addr} {nd cd : Nat} {X Y : Nat → Rat} {ZA ZB : Nat → Nat} {kq : Rat} {K T q : Nat} (w : World) (hlA : LQ w aA nA X ZA) (hlB : LQ w aB nB Y ZB) (hK : TR w p a na ca d nd cd kq K) (hq : q = min nA nB) (hzA : ∀ i, i < nA → 1 ≤ ZA i ∧ ZA i ≤ T ∧ SzR (X i) (ZA i)) (hzB : ∀ i, i < nB → 1 ≤ ZB i ∧ ZB i ≤ T) (hKS : SzR kq K) (hK1' : 1 ≤ K) (hT1 : 1 ≤ T) (hTK : T + K ≤ 1100000) (hsA : ∀ j, j ≤ nA → SzR (rsum X j) T) (hsB : ∀ j, j ≤ q → SzR (rdot X Y j) T) (hnA : nA ≤ 1100000) (hnB : nB ≤ 1100000) (hT : TB w) {ev : Value} (E : Errs w 1 ev) :
    Calls Tryz.prog 3 #[.slice aA nA cA, .slice aB nB cB, .agg #[.bool p, .slice a na ca, .slice d nd cd]] w fun e w' => e = .returned (.bool true) ∧ Below w.heap.size w w' := by
  have VK := var3_new w (.bool p) (.slice a na ca) (.slice d nd cd) 28
  have hb0 := bel_d0 w (.cells #[.bool p, .slice a na ca, .slice d nd cd] 28)
  replace hlA := hlA.below hb0
  replace hlB := hlB.below hb0
  replace hK := hK.below hb0
  replace hT := hT.below hb0
  replace E := E.below hb0
  have HSA : Hid (∀ j, j ≤ nA → SzR (rsum X j) T) := hsA
  have HSB : Hid (∀ j, j ≤ q → SzR (rdot X Y j) T) := hsB
  have HZA : Hid (∀ i, i < nA → 1 ≤ ZA i ∧ ZA i ≤ T ∧ SzR (X i) (ZA i)) := hzA
  have HZB : Hid (∀ i, i < nB → 1 ≤ ZB i ∧ ZB i ≤ T) := hzB
  have HQ : Hid (q = min nA nB) := hq
  have HKS : Hid (SzR kq K) := hKS
  have hqA : q ≤ nA := by omega
  have hqB : q ≤ nB := by omega
  clear hsA hsB hzA hzB hq hKS
  go_enter Tryz.func3, Tryz.ntmps3
  go_wp2_with fail
  generalize w.alloc (.cells #[.bool p, .slice a na ca, .slice d nd cd] 28) = W0 at *
  refine (shownQ _ hT E).mono ?_
  rintro e w1 ⟨rfl, hx⟩
  replace hlA := hlA.below hx
  replace hlB := hlB.below hx
  replace hK := hK.below hx
  replace hT := hT.below hx
  replace E := E.below hx
  replace VK := VK.below hx
  replace hb0 := bel_tr hb0 hx
  clear hx
  clear E
  go_wp2_with fail
  refine (dotQ aA aB nA nB cA cB X Y ZA ZB T q _ hlA hlB HQ.out (fun i hi => by have h1 := HZA.out i (by omega); have h2 := HZB.out i (by omega); omega) hT1 HSB.out hnA hT).mono ?_
  rintro e w2 ⟨fab, cab, nab, kab, dab, mab, lab, rfl, Gab, hx⟩
  replace hlA := hlA.below hx
  replace hlB := hlB.below hx
  replace hK := hK.below hx
  replace hT := hT.below hx
  replace VK := VK.below hx
  replace hb0 := bel_tr hb0 hx
  clear hx
  have hx := bel_d0 w2 (.cells #[.bool fab, .slice cab nab kab, .slice dab mab lab] 28)
  replace hlA := hlA.below hx
  replace hlB := hlB.below hx
  replace hK := hK.below hx
  replace hT := hT.below hx
  replace Gab := Gab.below hx
  replace VK := VK.below hx
  replace hb0 := bel_tr hb0 hx
  have Vab := var3_new w2 (.bool fab) (.slice cab nab kab) (.slice dab mab lab) 28
  clear hx
  go_wp2_with fail
  generalize w2.alloc (.cells #[.bool fab, .slice cab nab kab, .slice dab mab lab] 28) = w3 at *
  refine (dotQ aB aA nB nA cB cA Y X ZB ZA T q _ hlB hlA (by have := HQ.out; omega) (fun i hi => by have h1 := HZA.out i (by omega); have h2 := HZB.out i (by omega); omega) hT1 (fun j hj => by rw [rdot_comm]; exact HSB.out j hj) hnB hT).mono ?_
  rintro e w4 ⟨fba, cba, nba, kba, dba, mba, lba, rfl, Gba, hx⟩
  replace hlA := hlA.below hx
  replace hlB := hlB.below hx
  replace hK := hK.below hx
  replace hT := hT.below hx
  replace Gab := Gab.below hx
  replace VK := VK.below hx
  replace Vab := Vab.below hx
  replace hb0 := bel_tr hb0 hx
  clear hx
  have hx := bel_d0 w4 (.cells #[.bool fba, .slice cba nba kba, .slice dba mba lba] 28)
  replace hlA := hlA.below hx
  replace hlB := hlB.below hx
  replace hK := hK.below hx
  replace hT := hT.below hx
  replace Gab := Gab.below hx
  replace Gba := Gba.below hx
  replace VK := VK.below hx
  replace Vab := Vab.below hx
  replace hb0 := bel_tr hb0 hx
  have Vba := var3_new w4 (.bool fba) (.slice cba nba kba) (.slice dba mba lba) 28
  clear hx
  go_wp2_with fail
  generalize w4.alloc (.cells #[.bool fba, .slice cba nba kba, .slice dba mba lba] 28) = w5 at *
  have hLs : Hid (w5.heap.size = w5.heap.size) := rfl
  go_wp2
  go_loopw [10, 11, 12, 13] (fun s1 s2 s3 s4 wr => ∃ (i : Nat), i ≤ nA ∧ s4 = .int .i64 i ∧ RL wr w5.heap.size s1 i (fun j => X j * kq) (T + K) ∧ RL wr w5.heap.size s2 i (fun j => X j + X j * kq) (T + T + K + 1) ∧ RL wr w5.heap.size s3 i (fun _ => ((1 : Int) : Rat)) 1 ∧ NE s1 s2 ∧ NE s1 s3 ∧ NE s2 s3 ∧ Below w5.heap.size w5 wr) (fun _ _ _ s4 _ => nA - (intOf s4).toNat)
  case atStart => exact ⟨0, Nat.zero_le _, rfl, RL.nil _ _ _ _, RL.nil _ _ _ _, RL.nil _ _ _ _, NE.nil _, NE.nil _, NE.nil _, Below.refl _ _⟩
  case round =>
    obtain ⟨i, hi, rfl, L1, L2, L3, N12, N13, N23, hbel⟩ := hrel
    by_cases hlt : i < nA
    · have hkI : (i : Int) < (nA : Int) := by omega
      obtain ⟨hz1, hz2, hz3⟩ := HZA.out i hlt
      obtain ⟨o1, k1, rfl⟩ := L1.form
      obtain ⟨o2, k2, rfl⟩ := L2.form
      obtain ⟨o3, k3, rfl⟩ := L3.form
      have hlA' := hlA.below hbel
      rcases id hlA' with h0 | ⟨ba, oa, rfl, hel⟩
      · omega
      obtain ⟨pA, aE, nE, cE, dE, mE, lE, a0, a1, a2, hA⟩ := hel i hlt
      have hkI2 : (i : Int) * 3 = ((i * 3 : Nat) : Int) := by omega
      have hsr := Below.size hbel
      have hK1 := hK.below hbel
      have hT1w := hT.below hbel
      have hr1 : ∀ g, (Value.slice o1 i k1).ownBlock = some g → g < wr.heap.size := fun g h => (L1.lt g h).2
      have VK1 := VK.below hbel
      obtain ⟨b0, b1, b2, b3, b4, b5⟩ := id VK1
      clear hlA' hel
      have HB : ∀ w', Below wr.heap.size wr w' → w'.cell? ⟨ba, oa + i * 3, none⟩ = some (.bool pA) ∧ w'.cell? ⟨ba, oa + i * 3 + 1, none⟩ = some (.slice aE nE cE) ∧ w'.cell? ⟨ba, oa + i * 3 + 2, none⟩ = some (.slice dE mE lE) ∧ w'.cell? ⟨w.heap.size, 0, none⟩ = some (.bool p) ∧ w'.cell? ⟨w.heap.size, 1, none⟩ = some (.slice a na ca) ∧ w'.cell? ⟨w.heap.size, 2, none⟩ = some (.slice d nd cd) :=
        fun w' h => ⟨kept_c h a0, kept_c h a1, kept_c h a2, kept_c h b0, kept_c h b1, kept_c h b2⟩
      go_wp2_with fail
      refine wp_cut (fun q0 a' w' => ∃ R f c n k d' m l, a' = (((((((q0.put (some 38) (.slice (some ⟨ba, oa, none⟩) nA cA)).put (some 39) (.int .i64 i)).put (some 40) (.pointer (some ⟨ba, oa + i * 3, none⟩))).put (some 41) (.agg #[.bool pA, .slice aE nE cE, .slice dE mE lE])).put (some 42) (.agg #[.bool p, .slice a na ca, .slice d nd cd])).put (some 43) (.agg #[.bool f, .slice c n k, .slice d' m l])).put (some 14) (.pointer (some ⟨R, 0, none⟩))) ∧ Var3 w' R (.bool f) (.slice c n k) (.slice d' m l) ∧ GR w' wr.heap.size f c n k d' m l (X i * kq) (ZA i + K) ∧ wr.heap.size ≤ R ∧ Below wr.heap.size wr w') ?_ ?_
      · go_region_held3 (fun w' => w'.cell? ⟨ba, oa + i * 3, none⟩ = some (.bool pA) ∧ w'.cell? ⟨ba, oa + i * 3 + 1, none⟩ = some (.slice aE nE cE) ∧ w'.cell? ⟨ba, oa + i * 3 + 2, none⟩ = some (.slice dE mE lE) ∧ w'.cell? ⟨w.heap.size, 0, none⟩ = some (.bool p) ∧ w'.cell? ⟨w.heap.size, 1, none⟩ = some (.slice a na ca) ∧ w'.cell? ⟨w.heap.size, 2, none⟩ = some (.slice d nd cd))
          (with_reducible refine HB _ ?_; repeat' (first | with_reducible exact hc1 | with_reducible exact Below.refl _ _ | with_reducible refine bel_dr ?_ | with_reducible refine bel_a ?_ | with_reducible refine bel_s3 ?_ ?_ | omega))
          ((first
            | (go_at_call 9; go_fit (mulQ _ (hA.below (by first | exact bel_d1 _ | exact bel_d2 _ _)) (hK1.below (by first | exact bel_d1 _ | exact bel_d2 _ _)) (by omega) (by omega) (by omega) (hT1w.below (by first | exact bel_d1 _ | exact bel_d2 _ _))); rintro e v1 ⟨f2, c2, n2, k2, c3, n3, k3, rfl, G2, hb1⟩; have hc1 : Below wr.heap.size wr v1 := (by first | exact bel_tr (bel_d1 _) hb1 | exact bel_tr (bel_d2 _ _) hb1); have hsv1 := Below.size hc1; first | (have VP : Var3 v1 wr.heap.size (.bool false) (.slice none 0 0) (.slice none 0 0) := (var3_new wr.drew (.bool false) (.slice none 0 0) (.slice none 0 0) 28).below hb1; obtain ⟨y0, y1, y2, y3, y4, y5⟩ := id VP) | skip)))
        · exact ⟨rfl, _, f2, c2, n2, k2, c3, n3, k3, rfl, var3_new _ _ _ _ _, (G2.below (bel_d0 _ _)).mono (by simp <;> omega), hsv1, bel_a hc1⟩
        · obtain ⟨V, O⟩ := VP.set (.bool f2) (.slice c2 n2 k2) (.slice c3 n3 k3)
          exact ⟨rfl, _, f2, c2, n2, k2, c3, n3, k3, rfl, V, (G2.off O (by simp <;> omega)).mono (by simp <;> omega), Nat.le_refl _, hc1.trans (O.below (Nat.le_refl _))⟩
      rintro a' w20 ⟨Rx, fx, cx, nx, kx, dx, mx, lx, rfl, Vx, Gx, hRx, hx⟩
      clear HB a0 a1 a2 b0 b1 b2
      have hsw20 := Below.size hx
      clear b3 b4 b5 hK1 VK1
      replace L1 := L1.below hx
      replace L2 := L2.below hx
      replace L3 := L3.below hx
      replace hbel := bel_tr hbel hx
      clear hx
      simp only [Act.put, List.setIfInBounds_toArray, List.set_cons_zero, List.set_cons_succ]
      have hrow : ∀ g, (Value.slice o1 i k1).ownBlock = some g → w5.heap.size ≤ g := fun g hg => (L1.lt g hg).1
      obtain ⟨v0, v1, v2, v3, v4, v5⟩ := id Vx
      go_wp2_with (at_builtin; refine wpList_appendR _ rfl _ _ rfl w5.heap.size (.slice o1 i k1) i (fun j => X j * kq) (T + K) rfl (L1.below (bel_d0 _ _)) w20.heap.size _ rfl fx cx nx kx dx mx lx (cell_new3 rfl) (((Gx.mono (by omega)).le (by omega)).below (bel_d0 _ _)) (by omega) (by simp; omega) (w20.heap.size + 1) (by simp) ?_)
      intro g1 cap1 w21 LN hgrow hat _
      have hLa := L1.below (bel_d0 w20 (.cells #[.bool fx, .slice cx nx kx, .slice dx mx lx] 28))
      have hbelN : Below w5.heap.size w5 w21 := hbel.trans (((Below.refl _ _).alloc (by omega) _).trans (grown_below hgrow (by simp; omega) hrow))
      have hsw21 : w20.heap.size ≤ w21.heap.size := Nat.le_trans (by simp) hgrow.size
      have NN2 : NE (.slice (some ⟨g1, 0, none⟩) (i + 1) cap1) _ := NE.grown (H := w20.heap.size) (H' := w20.heap.size + 1) (N12) (fun g h => (L2.lt g h).2) hat (by omega)
      replace L2 := (L2.below (bel_d0 w20 (.cells #[.bool fx, .slice cx nx kx, .slice dx mx lx] 28))).grow hLa (fun g h1 h2 => (N12) g h2 h1) hgrow
      have NN3 : NE (.slice (some ⟨g1, 0, none⟩) (i + 1) cap1) _ := NE.grown (H := w20.heap.size) (H' := w20.heap.size + 1) (N13) (fun g h => (L3.lt g h).2) hat (by omega)
      replace L3 := (L3.below (bel_d0 w20 (.cells #[.bool fx, .slice cx nx kx, .slice dx mx lx] 28))).grow hLa (fun g h1 h2 => (N13) g h2 h1) hgrow
      replace Vx := (Vx.alloc (.cells #[.bool fx, .slice cx nx kx, .slice dx mx lx] 28)).grown hgrow (fun e => by have := hr1 _ e; omega)
      replace Gx := (Gx.below (bel_d0 w20 (.cells #[.bool fx, .slice cx nx kx, .slice dx mx lx] 28))).growL hLa hgrow
      clear v0 v1 v2 v3 v4 v5 hgrow hat hLa hrow L1 N12 N13 hbel
      have L1 := LN
      have N12 := NN2
      have N13 := NN3
      have hbel := hbelN
      clear LN NN2 NN3 hbelN
      have hlA' := hlA.below hbel
      rcases hlA' with h0 | ⟨ba', oa', e', hel⟩
      · omega
      simp only [Option.some.injEq, Addr.mk.injEq] at e'
      obtain ⟨rfl, rfl, _⟩ := e'
      obtain ⟨pA, aE, nE, cE, dE, mE, lE, a0, a1, a2, hA⟩ := hel i hlt
      have hT2w := hT.below hbel
      obtain ⟨b0, b1, b2, b3, b4, b5⟩ := id Vx
      clear hel hT1w
      have HB : ∀ w', Below w21.heap.size w21 w' → w'.cell? ⟨ba, oa + i * 3, none⟩ = some (.bool pA) ∧ w'.cell? ⟨ba, oa + i * 3 + 1, none⟩ = some (.slice aE nE cE) ∧ w'.cell? ⟨ba, oa + i * 3 + 2, none⟩ = some (.slice dE mE lE) ∧ w'.cell? ⟨Rx, 0, none⟩ = some (.bool fx) ∧ w'.cell? ⟨Rx, 1, none⟩ = some (.slice cx nx kx) ∧ w'.cell? ⟨Rx, 2, none⟩ = some (.slice dx mx lx) :=
        fun w' h => ⟨kept_c h a0, kept_c h a1, kept_c h a2, kept_c h b0, kept_c h b1, kept_c h b2⟩
      go_wp2_with fail
      refine wp_cut (fun q0 a' w' => ∃ R f c n k d' m l, a' = (((((((q0.put (some 48) (.slice (some ⟨ba, oa, none⟩) nA cA)).put (some 49) (.int .i64 i)).put (some 50) (.pointer (some ⟨ba, oa + i * 3, none⟩))).put (some 51) (.agg #[.bool pA, .slice aE nE cE, .slice dE mE lE])).put (some 52) (.agg #[.bool fx, .slice cx nx kx, .slice dx mx lx])).put (some 53) (.agg #[.bool f, .slice c n k, .slice d' m l])).put (some 15) (.pointer (some ⟨R, 0, none⟩))) ∧ Var3 w' R (.bool f) (.slice c n k) (.slice d' m l) ∧ GR w' w21.heap.size f c n k d' m l (X i + X i * kq) (ZA i + (ZA i + K) + 1) ∧ w21.heap.size ≤ R ∧ Below w21.heap.size w21 w') ?_ ?_
      · go_region_held3 (fun w' => w'.cell? ⟨ba, oa + i * 3, none⟩ = some (.bool pA) ∧ w'.cell? ⟨ba, oa + i * 3 + 1, none⟩ = some (.slice aE nE cE) ∧ w'.cell? ⟨ba, oa + i * 3 + 2, none⟩ = some (.slice dE mE lE) ∧ w'.cell? ⟨Rx, 0, none⟩ = some (.bool fx) ∧ w'.cell? ⟨Rx, 1, none⟩ = some (.slice cx nx kx) ∧ w'.cell? ⟨Rx, 2, none⟩ = some (.slice dx mx lx))
          (with_reducible refine HB _ ?_; repeat' (first | with_reducible exact hc1 | with_reducible exact Below.refl _ _ | with_reducible refine bel_dr ?_ | with_reducible refine bel_a ?_ | with_reducible refine bel_s3 ?_ ?_ | omega))
          ((first
            | (go_at_call 10; go_fit (addQ _ (hA.below (by first | exact bel_d1 _ | exact bel_d2 _ _)) (Gx.tr.below (by first | exact bel_d1 _ | exact bel_d2 _ _)) (by omega) (by omega) (by omega) (hT2w.below (by first | exact bel_d1 _ | exact bel_d2 _ _))); rintro e v1 ⟨f2, c2, n2, k2, c3, n3, k3, rfl, G2, hb1⟩; have hc1 : Below w21.heap.size w21 v1 := (by first | exact bel_tr (bel_d1 _) hb1 | exact bel_tr (bel_d2 _ _) hb1); have hsv1 := Below.size hc1; first | (have VP : Var3 v1 w21.heap.size (.bool false) (.slice none 0 0) (.slice none 0 0) := (var3_new w21.drew (.bool false) (.slice none 0 0) (.slice none 0 0) 28).below hb1; obtain ⟨y0, y1, y2, y3, y4, y5⟩ := id VP) | skip)))
        · exact ⟨rfl, _, f2, c2, n2, k2, c3, n3, k3, rfl, var3_new _ _ _ _ _, (G2.below (bel_d0 _ _)).mono (by simp <;> omega), hsv1, bel_a hc1⟩
        · obtain ⟨V, O⟩ := VP.set (.bool f2) (.slice c2 n2 k2) (.slice c3 n3 k3)
          exact ⟨rfl, _, f2, c2, n2, k2, c3, n3, k3, rfl, V, (G2.off O (by simp <;> omega)).mono (by simp <;> omega), Nat.le_refl _, hc1.trans (O.below (Nat.le_refl _))⟩
      rintro a' w22 ⟨Ry, fy, cy, ny, ky, dy, my, ly, rfl, Vy, Gy, hRy, hx⟩
      clear HB a0 a1 a2 b0 b1 b2
      have hsw22 := Below.size hx
      clear b3 b4 b5 Gx Vx
      replace L1 := L1.below hx
      replace L2 := L2.below hx
      replace L3 := L3.below hx
      replace hbel := bel_tr hbel hx
      clear hx hA hT2w
      simp only [Act.put, List.setIfInBounds_toArray, List.set_cons_zero, List.set_cons_succ]
      have hrow : ∀ g, (Value.slice o2 i k2).ownBlock = some g → w5.heap.size ≤ g := fun g hg => (L2.lt g hg).1
      obtain ⟨v0, v1, v2, v3, v4, v5⟩ := id Vy
      go_wp2_with (at_builtin; refine wpList_appendR _ rfl _ _ rfl w5.heap.size (.slice o2 i k2) i (fun j => X j + X j * kq) (T + T + K + 1) rfl (L2.below (bel_d0 _ _)) w22.heap.size _ rfl fy cy ny ky dy my ly (cell_new3 rfl) (((Gy.mono (by omega)).le (by omega)).below (bel_d0 _ _)) (by omega) (by simp; omega) (w22.heap.size + 1) (by simp) ?_)
      intro g2 cap2 w23 LN hgrow hat _
      have hLa := L2.below (bel_d0 w22 (.cells #[.bool fy, .slice cy ny ky, .slice dy my ly] 28))
      have hbelN : Below w5.heap.size w5 w23 := hbel.trans (((Below.refl _ _).alloc (by omega) _).trans (grown_below hgrow (by simp; omega) hrow))
      have hsw23 : w22.heap.size ≤ w23.heap.size := Nat.le_trans (by simp) hgrow.size
      have NN1 : NE (.slice (some ⟨g2, 0, none⟩) (i + 1) cap2) _ := NE.grown (H := w22.heap.size) (H' := w22.heap.size + 1) (N12.symm) (fun g h => (L1.lt g h).2) hat (by omega)
      replace L1 := (L1.below (bel_d0 w22 (.cells #[.bool fy, .slice cy ny ky, .slice dy my ly] 28))).grow hLa (fun g h1 h2 => (N12.symm) g h2 h1) hgrow
      have NN3 : NE (.slice (some ⟨g2, 0, none⟩) (i + 1) cap2) _ := NE.grown (H := w22.heap.size) (H' := w22.heap.size + 1) (N23) (fun g h => (L3.lt g h).2) hat (by omega)
      replace L3 := (L3.below (bel_d0 w22 (.cells #[.bool fy, .slice cy ny ky, .slice dy my ly] 28))).grow hLa (fun g h1 h2 => (N23) g h2 h1) hgrow
      clear v0 v1 v2 v3 v4 v5 hgrow hat hLa hrow L2 N12 N23 hbel Vy Gy
      have L2 := LN
      have N12 := NN1.symm
      have N23 := NN3
      have hbel := hbelN
      clear LN NN1 NN3 hbelN
      go_wp2_with fail
      refine (ofQ 1 _ (by decide) (by decide)).mono ?_
      rintro e w24 ⟨fo, co, no, ko, do', mo, lo, rfl, Go, hx⟩
      have hsw24 := Below.size hx
      replace L1 := L1.below hx
      replace L2 := L2.below hx
      replace L3 := L3.below hx
      replace hbel := bel_tr hbel hx
      clear hx
      have hx := bel_d0 w24 (.cells #[.bool fo, .slice co no ko, .slice do' mo lo] 28)
      have Vo := var3_new w24 (.bool fo) (.slice co no ko) (.slice do' mo lo) 28
      have hsw25 := Below.size hx
      replace Go := Go.below hx
      replace L1 := L1.below hx
      replace L2 := L2.below hx
      replace L3 := L3.below hx
      replace hbel := bel_tr hbel hx
      clear hx
      have hrow : ∀ g, (Value.slice o3 i k3).ownBlock = some g → w5.heap.size ≤ g := fun g hg => (L3.lt g hg).1
      obtain ⟨v0, v1, v2, v3, v4, v5⟩ := id Vo
      go_wp2_with (at_builtin; refine wpList_appendR _ rfl _ _ rfl w5.heap.size (.slice o3 i k3) i (fun _ => ((1 : Int) : Rat)) (1) rfl (L3.below (bel_d0 _ _)) (w24.heap.size + 1) _ rfl fo co no ko do' mo lo (cell_new3 (by simp)) (((Go.mono (by omega)).le (by omega)).below (bel_d0 _ _)) (by omega) (by simp; omega) (w24.heap.size + 2) (by simp) ?_)
      intro g3 cap3 w26 LN hgrow hat _
      have hLa := L3.below (bel_d0 (w24.alloc (.cells #[.bool fo, .slice co no ko, .slice do' mo lo] 28)) (.cells #[.bool fo, .slice co no ko, .slice do' mo lo] 28))
      have hbelN : Below w5.heap.size w5 w26 := hbel.trans (((Below.refl _ _).alloc (by omega) _).trans (grown_below hgrow (by simp; omega) hrow))
      have hsw26 : (w24.alloc (.cells #[.bool fo, .slice co no ko, .slice do' mo lo] 28)).heap.size ≤ w26.heap.size := Nat.le_trans (by simp) hgrow.size
      have NN1 : NE (.slice (some ⟨g3, 0, none⟩) (i + 1) cap3) _ := NE.grown (H := w24.heap.size + 1) (H' := w24.heap.size + 2) (N13.symm) (fun g h => by simpa using (L1.lt g h).2) hat (by omega)
      replace L1 := (L1.below (bel_d0 (w24.alloc (.cells #[.bool fo, .slice co no ko, .slice do' mo lo] 28)) (.cells #[.bool fo, .slice co no ko, .slice do' mo lo] 28))).grow hLa (fun g h1 h2 => (N13.symm) g h2 h1) hgrow
      have NN2 : NE (.slice (some ⟨g3, 0, none⟩) (i + 1) cap3) _ := NE.grown (H := w24.heap.size + 1) (H' := w24.heap.size + 2) (N23.symm) (fun g h => by simpa using (L2.lt g h).2) hat (by omega)
      replace L2 := (L2.below (bel_d0 (w24.alloc (.cells #[.bool fo, .slice co no ko, .slice do' mo lo] 28)) (.cells #[.bool fo, .slice co no ko, .slice do' mo lo] 28))).grow hLa (fun g h1 h2 => (N23.symm) g h2 h1) hgrow
      clear v0 v1 v2 v3 v4 v5 hgrow hat hLa hrow L3 N13 N23 hbel Vo Go
      have N13 := NN1.symm
      have N23 := NN2.symm
      clear NN1 NN2
      go_wp2
      go_roundw
      case rel => first | exact ⟨i + 1, by omega, by go_num, L1, L2, LN, N12, N13, N23, hbelN⟩ | ((repeat apply Exists.intro); refine ⟨?_, rfl⟩; exact ⟨i + 1, by omega, by go_num, L1, L2, LN, N12, N13, N23, hbelN⟩)
      case measure => simp [intOf]; omega
    · have hkI : ¬ (i : Int) < (nA : Int) := by omega
      obtain rfl : i = nA := by omega
      obtain ⟨o1, k1, rfl⟩ := L1.form
      obtain ⟨o2, k2, rfl⟩ := L2.form
      obtain ⟨o3, k3, rfl⟩ := L3.form
      clear N12 N13 N23
      have hlA0 := hlA
      have hK0 := hK
      have hT0 := hT
      have hb00 := hb0
      have hvk := VK.lt
      have hvab := Vab.lt
      have hvba := Vba.lt
      have hr3 : ∀ g, (Value.slice o3 i k3).ownBlock = some g → w5.heap.size ≤ g ∧ g < wr.heap.size := fun g h => L3.lt g h
      replace hlA := hlA.below hbel
      replace hlB := hlB.below hbel
      replace hK := hK.below hbel
      replace hT := hT.below hbel
      replace Gab := Gab.below hbel
      replace Gba := Gba.below hbel
      replace VK := VK.below hbel
      replace Vab := Vab.below hbel
      replace Vba := Vba.below hbel
      replace hb0 : Below w.heap.size w wr := bel_tr hb0 hbel
      have hLe := hbel
      have hs30 := Below.size hbel
      clear hbel
      go_wp2_with fail
      refine (dotQ o1 aB i nB k1 cB (fun j => X j * kq) Y (fun _ => T + K) ZB (T + K) q _ L1.lq hlB HQ.out (fun j hj => by have h2 := HZB.out j (by omega); omega) (by omega) (fun j hj => by rw [rdot_scale]; exact (HSB.out j hj).mul HKS.out (by omega)) hnA hT).mono ?_
      rintro e w31 ⟨fby, cby, nby, kby, dby, mby, lby, rfl, Gby, hx⟩
      replace hlA := hlA.below hx
      replace hlB := hlB.below hx
      replace hK := hK.below hx
      replace hT := hT.below hx
      replace Gab := Gab.below hx
      replace Gba := Gba.below hx
      replace L1 := L1.below hx
      replace L2 := L2.below hx
      replace L3 := L3.below hx
      replace VK := VK.below hx
      replace Vab := Vab.below hx
      replace Vba := Vba.below hx
      replace hb0 := bel_tr hb0 hx
      replace hLe := bel_tr hLe hx
      have hs31 := Below.size hx
      clear hx
      have hx := bel_d0 w31 (.cells #[.bool fby, .slice cby nby kby, .slice dby mby lby] 28)
      replace hlA := hlA.below hx
      replace hlB := hlB.below hx
      replace hK := hK.below hx
      replace hT := hT.below hx
      replace Gab := Gab.below hx
      replace Gba := Gba.below hx
      replace L1 := L1.below hx
      replace L2 := L2.below hx
      replace L3 := L3.below hx
      replace Gby := Gby.below hx
      replace VK := VK.below hx
      replace Vab := Vab.below hx
      replace Vba := Vba.below hx
      replace hb0 := bel_tr hb0 hx
      replace hLe := bel_tr hLe hx
      have hs32 := Below.size hx
      have Vby := var3_new w31 (.bool fby) (.slice cby nby kby) (.slice dby mby lby) 28
      clear hx
      obtain ⟨vabc0, vabc1, vabc2, vabc3, vabc4, vabc5⟩ := id Vab
      obtain ⟨vkc0, vkc1, vkc2, vkc3, vkc4, vkc5⟩ := id VK
      go_wp2_with fail
      generalize w31.alloc (.cells #[.bool fby, .slice cby nby kby, .slice dby mby lby] 28) = w32 at *
      refine (mulQ _ Gab.tr hK (by omega) (by omega) (by omega) hT).mono ?_
      rintro e w33 ⟨ftm, ctm, ntm, ktm, dtm, mtm, ltm, rfl, Gtm, hx⟩
      clear vabc0 vabc1 vabc2 vabc3 vabc4 vabc5 vkc0 vkc1 vkc2 vkc3 vkc4 vkc5
      replace hlA := hlA.below hx
      replace hlB := hlB.below hx
      replace hK := hK.below hx
      replace hT := hT.below hx
      replace Gab := Gab.below hx
      replace Gba := Gba.below hx
      replace L1 := L1.below hx
      replace L2 := L2.below hx
      replace L3 := L3.below hx
      replace Gby := Gby.below hx
      replace VK := VK.below hx
      replace Vab := Vab.below hx
      replace Vba := Vba.below hx
      replace Vby := Vby.below hx
      replace hb0 := bel_tr hb0 hx
      replace hLe := bel_tr hLe hx
      have hs33 := Below.size hx
      clear hx
      have hx := bel_d0 w33 (.cells #[.bool ftm, .slice ctm ntm ktm, .slice dtm mtm ltm] 28)
      replace hlA := hlA.below hx
      replace hlB := hlB.below hx
      replace hK := hK.below hx
      replace hT := hT.below hx
      replace Gab := Gab.below hx
      replace Gba := Gba.below hx
      replace L1 := L1.below hx
      replace L2 := L2.below hx
      replace L3 := L3.below hx
      replace Gby := Gby.below hx
      replace Gtm := Gtm.below hx
      replace VK := VK.below hx
      replace Vab := Vab.below hx
      replace Vba := Vba.below hx
      replace Vby := Vby.below hx
      replace hb0 := bel_tr hb0 hx
      replace hLe := bel_tr hLe hx
      have hs34 := Below.size hx
      have Vtm := var3_new w33 (.bool ftm) (.slice ctm ntm ktm) (.slice dtm mtm ltm) 28
      clear hx
      go_wp2_with fail
      generalize w33.alloc (.cells #[.bool ftm, .slice ctm ntm ktm, .slice dtm mtm ltm] 28) = w34 at *
      refine (dotQ o2 aB i nB k2 cB (fun j => X j + X j * kq) Y (fun _ => T + T + K + 1) ZB (T + T + K + 1) q _ L2.lq hlB HQ.out (fun j hj => by have h2 := HZB.out j (by omega); omega) (by omega) (fun j hj => by rw [rdot_both]; exact ((HSB.out j hj).add ((HSB.out j hj).mul HKS.out (by omega))).le (by omega)) hnA hT).mono ?_
      rintro e w35 ⟨fmr, cmr, nmr, kmr, dmr, mmr, lmr, rfl, Gmr, hx⟩
      replace hlA := hlA.below hx
      replace hlB := hlB.below hx
      replace hK := hK.below hx
      replace hT := hT.below hx
      replace Gab := Gab.below hx
      replace Gba := Gba.below hx
      replace L1 := L1.below hx
      replace L2 := L2.below hx
      replace L3 := L3.below hx
      replace Gby := Gby.below hx
      replace Gtm := Gtm.below hx
      replace VK := VK.below hx
      replace Vab := Vab.below hx
      replace Vba := Vba.below hx
      replace Vby := Vby.below hx
      replace Vtm := Vtm.below hx
      replace hb0 := bel_tr hb0 hx
      replace hLe := bel_tr hLe hx
      have hs35 := Below.size hx
      clear hx
      have hx := bel_d0 w35 (.cells #[.bool fmr, .slice cmr nmr kmr, .slice dmr mmr lmr] 28)
      replace hlA := hlA.below hx
      replace hlB := hlB.below hx
      replace hK := hK.below hx
      replace hT := hT.below hx
      replace Gab := Gab.below hx
      replace Gba := Gba.below hx
      replace L1 := L1.below hx
      replace L2 := L2.below hx
      replace L3 := L3.below hx
      replace Gby := Gby.below hx
      replace Gtm := Gtm.below hx
      replace Gmr := Gmr.below hx
      replace VK := VK.below hx
      replace Vab := Vab.below hx
      replace Vba := Vba.below hx
      replace Vby := Vby.below hx
      replace Vtm := Vtm.below hx
      replace hb0 := bel_tr hb0 hx
      replace hLe := bel_tr hLe hx
      have hs36 := Below.size hx
      have Vmr := var3_new w35 (.bool fmr) (.slice cmr nmr kmr) (.slice dmr mmr lmr) 28
      clear hx
      obtain ⟨vabc0, vabc1, vabc2, vabc3, vabc4, vabc5⟩ := id Vab
      obtain ⟨vbyc0, vbyc1, vbyc2, vbyc3, vbyc4, vbyc5⟩ := id Vby
      go_wp2_with fail
      generalize w35.alloc (.cells #[.bool fmr, .slice cmr nmr kmr, .slice dmr mmr lmr] 28) = w36 at *
      refine (addQ _ Gab.tr Gby.tr (by omega) (by omega) (by omega) hT).mono ?_
      rintro e w37 ⟨fsm, csm, nsm, ksm, dsm, msm, lsm, rfl, Gsm, hx⟩
      clear vabc0 vabc1 vabc2 vabc3 vabc4 vabc5 vbyc0 vbyc1 vbyc2 vbyc3 vbyc4 vbyc5
      replace hlA := hlA.below hx
      replace hlB := hlB.below hx
      replace hK := hK.below hx
      replace hT := hT.below hx
      replace Gab := Gab.below hx
      replace Gba := Gba.below hx
      replace L1 := L1.below hx
      replace L2 := L2.below hx
      replace L3 := L3.below hx
      replace Gby := Gby.below hx
      replace Gtm := Gtm.below hx
      replace Gmr := Gmr.below hx
      replace VK := VK.below hx
      replace Vab := Vab.below hx
      replace Vba := Vba.below hx
      replace Vby := Vby.below hx
      replace Vtm := Vtm.below hx
      replace Vmr := Vmr.below hx
      replace hb0 := bel_tr hb0 hx
      replace hLe := bel_tr hLe hx
      have hs37 := Below.size hx
      clear hx
      have hx := bel_d0 w37 (.cells #[.bool fsm, .slice csm nsm ksm, .slice dsm msm lsm] 28)
      replace hlA := hlA.below hx
      replace hlB := hlB.below hx
      replace hK := hK.below hx
      replace hT := hT.below hx
      replace Gab := Gab.below hx
      replace Gba := Gba.below hx
      replace L1 := L1.below hx
      replace L2 := L2.below hx
      replace L3 := L3.below hx
      replace Gby := Gby.below hx
      replace Gtm := Gtm.below hx
      replace Gmr := Gmr.below hx
      replace Gsm := Gsm.below hx
      replace VK := VK.below hx
      replace Vab := Vab.below hx
      replace Vba := Vba.below hx
      replace Vby := Vby.below hx
      replace Vtm := Vtm.below hx
      replace Vmr := Vmr.below hx
      replace hb0 := bel_tr hb0 hx
      replace hLe := bel_tr hLe hx
      have hs38 := Below.size hx
      have Vsm := var3_new w37 (.bool fsm) (.slice csm nsm ksm) (.slice dsm msm lsm) 28
      clear hx
      go_wp2_with fail
      generalize w37.alloc (.cells #[.bool fsm, .slice csm nsm ksm, .slice dsm msm lsm] 28) = w38 at *
      refine (sumQ aA i cA X ZA T _ hlA (fun j hj => by have h1 := HZA.out j hj; omega) hT1 HSA.out hnA hT).mono ?_
      rintro e w39 ⟨fal, cal, nal, kal, dal, mal, lal, rfl, Gal, hx⟩
      replace hlA := hlA.below hx
      replace hlB := hlB.below hx
      replace hK := hK.below hx
      replace hT := hT.below hx
      replace Gab := Gab.below hx
      replace Gba := Gba.below hx
      replace L1 := L1.below hx
      replace L2 := L2.below hx
      replace L3 := L3.below hx
      replace Gby := Gby.below hx
      replace Gtm := Gtm.below hx
      replace Gmr := Gmr.below hx
      replace Gsm := Gsm.below hx
      replace VK := VK.below hx
      replace Vab := Vab.below hx
      replace Vba := Vba.below hx
      replace Vby := Vby.below hx
      replace Vtm := Vtm.below hx
      replace Vmr := Vmr.below hx
      replace Vsm := Vsm.below hx
      replace hb0 := bel_tr hb0 hx
      replace hLe := bel_tr hLe hx
      have hs39 := Below.size hx
      clear hx
      have hx := bel_d0 w39 (.cells #[.bool fal, .slice cal nal kal, .slice dal mal lal] 28)
      replace hlA := hlA.below hx
      replace hlB := hlB.below hx
      replace hK := hK.below hx
      replace hT := hT.below hx
      replace Gab := Gab.below hx
      replace Gba := Gba.below hx
      replace L1 := L1.below hx
      replace L2 := L2.below hx
      replace L3 := L3.below hx
      replace Gby := Gby.below hx
      replace Gtm := Gtm.below hx
      replace Gmr := Gmr.below hx
      replace Gsm := Gsm.below hx
      replace Gal := Gal.below hx
      replace VK := VK.below hx
      replace Vab := Vab.below hx
      replace Vba := Vba.below hx
      replace Vby := Vby.below hx
      replace Vtm := Vtm.below hx
      replace Vmr := Vmr.below hx
      replace Vsm := Vsm.below hx
      replace hb0 := bel_tr hb0 hx
      replace hLe := bel_tr hLe hx
      have hs40 := Below.size hx
      have Val := var3_new w39 (.bool fal) (.slice cal nal kal) (.slice dal mal lal) 28
      clear hx
      go_wp2_with fail
      generalize w39.alloc (.cells #[.bool fal, .slice cal nal kal, .slice dal mal lal] 28) = w40 at *
      refine (dotQ aA o3 i i cA k3 X (fun _ => ((1 : Int) : Rat)) ZA (fun _ => 1) T i _ hlA L3.lq (Nat.min_self _).symm (fun j hj => by have h1 := HZA.out j hj; omega) hT1 (fun j hj => by rw [rdot_ones]; exact HSA.out j hj) hnA hT).mono ?_
      rintro e w41 ⟨fuu, cuu, nuu, kuu, duu, muu, luu, rfl, Guu, hx⟩
      replace hlA := hlA.below hx
      replace hlB := hlB.below hx
      replace hK := hK.below hx
      replace hT := hT.below hx
      replace Gab := Gab.below hx
      replace Gba := Gba.below hx
      replace L1 := L1.below hx
      replace L2 := L2.below hx
      replace L3 := L3.below hx
      replace Gby := Gby.below hx
      replace Gtm := Gtm.below hx
      replace Gmr := Gmr.below hx
      replace Gsm := Gsm.below hx
      replace Gal := Gal.below hx
      replace VK := VK.below hx
      replace Vab := Vab.below hx
      replace Vba := Vba.below hx
      replace Vby := Vby.below hx
      replace Vtm := Vtm.below hx
      replace Vmr := Vmr.below hx
      replace Vsm := Vsm.below hx
      replace Val := Val.below hx
      replace hb0 := bel_tr hb0 hx
      replace hLe := bel_tr hLe hx
      have hs41 := Below.size hx
      clear hx
      have hx := bel_d0 w41 (.cells #[.bool fuu, .slice cuu nuu kuu, .slice duu muu luu] 28)
      replace hlA := hlA.below hx
      replace hlB := hlB.below hx
      replace hK := hK.below hx
      replace hT := hT.below hx
      replace Gab := Gab.below hx
      replace Gba := Gba.below hx
      replace L1 := L1.below hx
      replace L2 := L2.below hx
      replace L3 := L3.below hx
      replace Gby := Gby.below hx
      replace Gtm := Gtm.below hx
      replace Gmr := Gmr.below hx
      replace Gsm := Gsm.below hx
      replace Gal := Gal.below hx
      replace Guu := Guu.below hx
      replace VK := VK.below hx
      replace Vab := Vab.below hx
      replace Vba := Vba.below hx
      replace Vby := Vby.below hx
      replace Vtm := Vtm.below hx
      replace Vmr := Vmr.below hx
      replace Vsm := Vsm.below hx
      replace Val := Val.below hx
      replace hb0 := bel_tr hb0 hx
      replace hLe := bel_tr hLe hx
      have hs42 := Below.size hx
      have Vuu := var3_new w41 (.bool fuu) (.slice cuu nuu kuu) (.slice duu muu luu) 28
      clear hx
      obtain ⟨vkc0, vkc1, vkc2, vkc3, vkc4, vkc5⟩ := id VK
      go_wp2_with (at_builtin; refine wpList_appendT _ rfl _ _ rfl w5.heap.size (.slice o3 i k3) i (fun _ => ((1 : Int) : Rat)) 1 rfl (L3.below (bel_d0 _ _)) (w41.heap.size + 1) _ rfl p a na ca d nd cd kq K (cell_new3 (by simp)) (fun w' h => hK0.below ((bel_a hLe).trans h)) (by omega) (by simp; omega) (w41.heap.size + 2) (by simp) ?_)
      intro gZ capZ wZ LQz hgrow hbZ
      have hLa := L3.below (bel_d0 (w41.alloc (.cells #[.bool fuu, .slice cuu nuu kuu, .slice duu muu luu] 28)) (.cells #[.bool p, .slice a na ca, .slice d nd cd] 28))
      have hLz : Below w5.heap.size w5 wZ := (bel_a hLe).trans hbZ
      replace hlA := hlA0.below hLz
      replace hT := hT0.below hLz
      replace hb0 := bel_tr hb00 hLz
      clear vkc0 vkc1 vkc2 vkc3 vkc4 vkc5
      replace Gab := (Gab.below (bel_d0 (w41.alloc (.cells #[.bool fuu, .slice cuu nuu kuu, .slice duu muu luu] 28)) (.cells #[.bool p, .slice a na ca, .slice d nd cd] 28))).growL hLa hgrow
      replace Gba := (Gba.below (bel_d0 (w41.alloc (.cells #[.bool fuu, .slice cuu nuu kuu, .slice duu muu luu] 28)) (.cells #[.bool p, .slice a na ca, .slice d nd cd] 28))).growL hLa hgrow
      replace Gby := (Gby.below (bel_d0 (w41.alloc (.cells #[.bool fuu, .slice cuu nuu kuu, .slice duu muu luu] 28)) (.cells #[.bool p, .slice a na ca, .slice d nd cd] 28))).growL hLa hgrow
      replace Gtm := (Gtm.below (bel_d0 (w41.alloc (.cells #[.bool fuu, .slice cuu nuu kuu, .slice duu muu luu] 28)) (.cells #[.bool p, .slice a na ca, .slice d nd cd] 28))).growL hLa hgrow
      replace Gmr := (Gmr.below (bel_d0 (w41.alloc (.cells #[.bool fuu, .slice cuu nuu kuu, .slice duu muu luu] 28)) (.cells #[.bool p, .slice a na ca, .slice d nd cd] 28))).growL hLa hgrow
      replace Gsm := (Gsm.below (bel_d0 (w41.alloc (.cells #[.bool fuu, .slice cuu nuu kuu, .slice duu muu luu] 28)) (.cells #[.bool p, .slice a na ca, .slice d nd cd] 28))).growL hLa hgrow
      replace Gal := (Gal.below (bel_d0 (w41.alloc (.cells #[.bool fuu, .slice cuu nuu kuu, .slice duu muu luu] 28)) (.cells #[.bool p, .slice a na ca, .slice d nd cd] 28))).growL hLa hgrow
      replace Guu := (Guu.below (bel_d0 (w41.alloc (.cells #[.bool fuu, .slice cuu nuu kuu, .slice duu muu luu] 28)) (.cells #[.bool p, .slice a na ca, .slice d nd cd] 28))).growL hLa hgrow
      replace Vab := (Vab.alloc (.cells #[.bool p, .slice a na ca, .slice d nd cd] 28)).grown hgrow (fun e => by have := hr3 _ e; omega)
      replace Vba := (Vba.alloc (.cells #[.bool p, .slice a na ca, .slice d nd cd] 28)).grown hgrow (fun e => by have := hr3 _ e; omega)
      replace Vby := (Vby.alloc (.cells #[.bool p, .slice a na ca, .slice d nd cd] 28)).grown hgrow (fun e => by have := hr3 _ e; omega)
      replace Vtm := (Vtm.alloc (.cells #[.bool p, .slice a na ca, .slice d nd cd] 28)).grown hgrow (fun e => by have := hr3 _ e; omega)
      replace Vmr := (Vmr.alloc (.cells #[.bool p, .slice a na ca, .slice d nd cd] 28)).grown hgrow (fun e => by have := hr3 _ e; omega)
      replace Vsm := (Vsm.alloc (.cells #[.bool p, .slice a na ca, .slice d nd cd] 28)).grown hgrow (fun e => by have := hr3 _ e; omega)
      replace Val := (Val.alloc (.cells #[.bool p, .slice a na ca, .slice d nd cd] 28)).grown hgrow (fun e => by have := hr3 _ e; omega)
      replace Vuu := (Vuu.alloc (.cells #[.bool p, .slice a na ca, .slice d nd cd] 28)).grown hgrow (fun e => by have := hr3 _ e; omega)
      clear hLa hgrow hbZ hLe hlB hK VK L1 L2 L3 hr3 hlA0 hK0 hT0 hb00 hLz
      go_wp2_with fail
      refine (dotQ aA (some ⟨gZ, 0, none⟩) i (i + 1) cA capZ X (fun j => if j < i then ((1 : Int) : Rat) else kq) ZA (fun j => if j < i then 1 else K) T i _ hlA LQz (by omega) (fun j hj => by have h1 := HZA.out j hj; simp only [hj, if_true]; omega) hT1 (fun j hj => by rw [rdot_more X kq hj]; exact HSA.out j hj) hnA hT).mono ?_
      rintro e w43 ⟨fbe, cbe, nbe, kbe, dbe, mbe, lbe, rfl, Gbe, hx⟩
      replace Gab := Gab.below hx
      replace Gba := Gba.below hx
      replace Gby := Gby.below hx
      replace Gtm := Gtm.below hx
      replace Gmr := Gmr.below hx
      replace Gsm := Gsm.below hx
      replace Gal := Gal.below hx
      replace Guu := Guu.below hx
      replace Vab := Vab.below hx
      replace Vba := Vba.below hx
      replace Vby := Vby.below hx
      replace Vtm := Vtm.below hx
      replace Vmr := Vmr.below hx
      replace Vsm := Vsm.below hx
      replace Val := Val.below hx
      replace Vuu := Vuu.below hx
      replace hb0 := bel_tr hb0 hx
      clear hx
      have hx := bel_d0 w43 (.cells #[.bool fbe, .slice cbe nbe kbe, .slice dbe mbe lbe] 28)
      replace Gab := Gab.below hx
      replace Gba := Gba.below hx
      replace Gby := Gby.below hx
      replace Gtm := Gtm.below hx
      replace Gmr := Gmr.below hx
      replace Gsm := Gsm.below hx
      replace Gal := Gal.below hx
      replace Guu := Guu.below hx
      replace Gbe := Gbe.below hx
      replace Vab := Vab.below hx
      replace Vba := Vba.below hx
      replace Vby := Vby.below hx
      replace Vtm := Vtm.below hx
      replace Vmr := Vmr.below hx
      replace Vsm := Vsm.below hx
      replace Val := Val.below hx
      replace Vuu := Vuu.below hx
      replace hb0 := bel_tr hb0 hx
      have Vbe := var3_new w43 (.bool fbe) (.slice cbe nbe kbe) (.slice dbe mbe lbe) 28
      clear hx
      obtain ⟨vabc0, vabc1, vabc2, vabc3, vabc4, vabc5⟩ := id Vab
      obtain ⟨vbac0, vbac1, vbac2, vbac3, vbac4, vbac5⟩ := id Vba
      go_wp2_with fail
      generalize w43.alloc (.cells #[.bool fbe, .slice cbe nbe kbe, .slice dbe mbe lbe] 28) = w44 at *
      clear LQz hlA hT
      refine (sameQ _ Gab Gba ((rdot_comm X Y q).symm) (by omega)).mono ?_
      rintro e w45 ⟨rfl, hx⟩
      clear vabc0 vabc1 vabc2 vabc3 vabc4 vabc5 vbac0 vbac1 vbac2 vbac3 vbac4 vbac5
      replace Gab := Gab.below hx
      replace Gba := Gba.below hx
      replace Gby := Gby.below hx
      replace Gtm := Gtm.below hx
      replace Gmr := Gmr.below hx
      replace Gsm := Gsm.below hx
      replace Gal := Gal.below hx
      replace Guu := Guu.below hx
      replace Gbe := Gbe.below hx
      replace Vab := Vab.below hx
      replace Vba := Vba.below hx
      replace Vby := Vby.below hx
      replace Vtm := Vtm.below hx
      replace Vmr := Vmr.below hx
      replace Vsm := Vsm.below hx
      replace Val := Val.below hx
      replace Vuu := Vuu.below hx
      replace Vbe := Vbe.below hx
      replace hb0 := bel_tr hb0 hx
      clear hx
      obtain ⟨vbyc0, vbyc1, vbyc2, vbyc3, vbyc4, vbyc5⟩ := id Vby
      obtain ⟨vtmc0, vtmc1, vtmc2, vtmc3, vtmc4, vtmc5⟩ := id Vtm
      go_wp2_with fail
      refine (sameQ _ Gby Gtm (rdot_scale X Y kq q) (by omega)).mono ?_
      rintro e w46 ⟨rfl, hx⟩
      clear vbyc0 vbyc1 vbyc2 vbyc3 vbyc4 vbyc5 vtmc0 vtmc1 vtmc2 vtmc3 vtmc4 vtmc5
      replace Gab := Gab.below hx
      replace Gba := Gba.below hx
      replace Gby := Gby.below hx
      replace Gtm := Gtm.below hx
      replace Gmr := Gmr.below hx
      replace Gsm := Gsm.below hx
      replace Gal := Gal.below hx
      replace Guu := Guu.below hx
      replace Gbe := Gbe.below hx
      replace Vab := Vab.below hx
      replace Vba := Vba.below hx
      replace Vby := Vby.below hx
      replace Vtm := Vtm.below hx
      replace Vmr := Vmr.below hx
      replace Vsm := Vsm.below hx
      replace Val := Val.below hx
      replace Vuu := Vuu.below hx
      replace Vbe := Vbe.below hx
      replace hb0 := bel_tr hb0 hx
      clear hx
      obtain ⟨vmrc0, vmrc1, vmrc2, vmrc3, vmrc4, vmrc5⟩ := id Vmr
      obtain ⟨vsmc0, vsmc1, vsmc2, vsmc3, vsmc4, vsmc5⟩ := id Vsm
      go_wp2_with fail
      refine (sameQ _ Gmr Gsm ((by rw [rdot_both, rdot_scale])) (by omega)).mono ?_
      rintro e w47 ⟨rfl, hx⟩
      clear vmrc0 vmrc1 vmrc2 vmrc3 vmrc4 vmrc5 vsmc0 vsmc1 vsmc2 vsmc3 vsmc4 vsmc5
      replace Gab := Gab.below hx
      replace Gba := Gba.below hx
      replace Gby := Gby.below hx
      replace Gtm := Gtm.below hx
      replace Gmr := Gmr.below hx
      replace Gsm := Gsm.below hx
      replace Gal := Gal.below hx
      replace Guu := Guu.below hx
      replace Gbe := Gbe.below hx
      replace Vab := Vab.below hx
      replace Vba := Vba.below hx
      replace Vby := Vby.below hx
      replace Vtm := Vtm.below hx
      replace Vmr := Vmr.below hx
      replace Vsm := Vsm.below hx
      replace Val := Val.below hx
      replace Vuu := Vuu.below hx
      replace Vbe := Vbe.below hx
      replace hb0 := bel_tr hb0 hx
      clear hx
      obtain ⟨valc0, valc1, valc2, valc3, valc4, valc5⟩ := id Val
      obtain ⟨vuuc0, vuuc1, vuuc2, vuuc3, vuuc4, vuuc5⟩ := id Vuu
      go_wp2_with fail
      refine (sameQ _ Gal Guu ((rdot_ones X i).symm) (by omega)).mono ?_
      rintro e w48 ⟨rfl, hx⟩
      clear valc0 valc1 valc2 valc3 valc4 valc5 vuuc0 vuuc1 vuuc2 vuuc3 vuuc4 vuuc5
      replace Gab := Gab.below hx
      replace Gba := Gba.below hx
      replace Gby := Gby.below hx
      replace Gtm := Gtm.below hx
      replace Gmr := Gmr.below hx
      replace Gsm := Gsm.below hx
      replace Gal := Gal.below hx
      replace Guu := Guu.below hx
      replace Gbe := Gbe.below hx
      replace Vab := Vab.below hx
      replace Vba := Vba.below hx
      replace Vby := Vby.below hx
      replace Vtm := Vtm.below hx
      replace Vmr := Vmr.below hx
      replace Vsm := Vsm.below hx
      replace Val := Val.below hx
      replace Vuu := Vuu.below hx
      replace Vbe := Vbe.below hx
      replace hb0 := bel_tr hb0 hx
      clear hx
      obtain ⟨valc0, valc1, valc2, valc3, valc4, valc5⟩ := id Val
      obtain ⟨vbec0, vbec1, vbec2, vbec3, vbec4, vbec5⟩ := id Vbe
      go_wp2_with fail
      refine (sameQ _ Gal Gbe ((rdot_more X kq (Nat.le_refl i)).symm) (by omega)).mono ?_
      rintro e w49 ⟨rfl, hx⟩
      clear valc0 valc1 valc2 valc3 valc4 valc5 vbec0 vbec1 vbec2 vbec3 vbec4 vbec5
      replace Gab := Gab.below hx
      replace Gba := Gba.below hx
      replace Gby := Gby.below hx
      replace Gtm := Gtm.below hx
      replace Gmr := Gmr.below hx
      replace Gsm := Gsm.below hx
      replace Gal := Gal.below hx
      replace Guu := Guu.below hx
      replace Gbe := Gbe.below hx
      replace Vab := Vab.below hx
      replace Vba := Vba.below hx
      replace Vby := Vby.below hx
      replace Vtm := Vtm.below hx
      replace Vmr := Vmr.below hx
      replace Vsm := Vsm.below hx
      replace Val := Val.below hx
      replace Vuu := Vuu.below hx
      replace Vbe := Vbe.below hx
      replace hb0 := bel_tr hb0 hx
      clear hx
      go_wp2
      go_ret
      exact ⟨rfl, hb0⟩
end Go.Proofs.YtbagfdlmedljjaaGreatDoor

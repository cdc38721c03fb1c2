import Derived.Test.YtkbbdfflodiddabDoorW2M
namespace Go.Proofs.YtkbbdfflodiddabDoor
open Go.RowKit

theorem Got.growI {w w' : World} {B : Nat} {v : Value} {x : Int} {S : Nat} (h : Got w B v x S) {B' : Nat} {lv : Value} {n : Nat} {P : Nat → Bool} {V : Nat → Value} (k : IL w B' lv n P V) (hg : w.grownBy w' lv.ownBlock) : Got w' B v x S := by
  obtain ⟨xs, h1, h2⟩ := h
  obtain ⟨vs, k1, _⟩ := k
  exact ⟨xs, World.ownsRow.kept h1 hg (row_neR h1 k1 (by decide)), h2⟩
theorem GI.growI {w w' : World} {B : Nat} {v : Value} {x : Int} {S : Nat} (h : GI w B v x S) {B' : Nat} {lv : Value} {n : Nat} {P : Nat → Bool} {V : Nat → Value} (k : IL w B' lv n P V) (hg : w.grownBy w' lv.ownBlock) : GI w' B v x S := by
  obtain ⟨a, n2, c2, h1, h2⟩ := h
  exact ⟨a, n2, c2, h1, h2.growI k hg⟩
theorem cell_new4 {w : World} {h : Nat} {u v z y : Value} {t : TypeId} (hh : h = w.heap.size) : (w.alloc (.cells #[u, v, z, y] t)).cell? ⟨h, 0, none⟩ = some u ∧ (w.alloc (.cells #[u, v, z, y] t)).cell? ⟨h, 1, none⟩ = some v ∧ (w.alloc (.cells #[u, v, z, y] t)).cell? ⟨h, 2, none⟩ = some z ∧ (w.alloc (.cells #[u, v, z, y] t)).cell? ⟨h, 3, none⟩ = some y := by
  subst hh; refine ⟨?_, ?_, ?_, ?_⟩ <;> simp
theorem Len2.reads {w : World} {r : Nat} {p : Bool} {b : LB} {xs : List Int} (h : Len2 w r p b xs) : Reads w (some ⟨b.gf, 0, none⟩) xs := by
  have h1 := h.ls.rf.take xs.length
  have e : (lendL xs).take xs.length = xs := by unfold lendL; simp
  rw [e] at h1
  exact h1.reads
theorem hat_next {u : Value} {g H : Nat} {w : World} (h : u.ownBlock = some g ∨ g = H) (e : w.heap.size = H) : u.ownBlock = some g ∨ g = w.heap.size := by rw [e]; exact h
set_option maxRecDepth 100000 in
set_option maxHeartbeats 20000000 in
theorem sums_walk {al : Option Addr} {n cl : Nat} {P : Nat → Bool} {A : Nat → Option Addr} {N C : Nat → Nat} {X : Nat → List Int} (w : World) (hl : LI w al n P A N C) (hX : ∀ i, i < n → N i = (X i).length ∧ N i ≤ C i ∧ Reads w (A i) (X i) ∧ AllW (X i) ∧ N i ≤ 1048576) (hn : n ≤ 1048576) :
    Calls Tryd.prog 3 #[.slice al n cl] w fun e w' => e = .returned (.bool true) ∧ Below w.heap.size w w' := by
  have hb0 := Below.refl w.heap.size w
  go_enter Tryd.func3, Tryd.ntmps3
  go_wp2_with fail
  refine (awakeI _).mono ?_
  rintro e w1 ⟨rfl, hx⟩
  replace hb0 := bel_tr hb0 hx
  have hs1 := Below.size hb0
  clear hx
  go_wp2
  go_loopw [4, 5, 6] (fun s1 s2 s3 wr => ∃ (k : Nat) (R : Nat → Nat) (Bf : Nat → LB), k ≤ n ∧ s3 = .int .i64 k ∧ LO wr w1.heap.size k k k R P Bf X s1 s2 ∧ Below w1.heap.size w1 wr) (fun _ _ s3 _ => n - (intOf s3).toNat)
  case atStart => exact ⟨0, fun _ => 0, fun _ => ⟨0, 0, 0, 0, 0, 0⟩, Nat.zero_le _, rfl, LO.nil _ _ _ _ _ _, Below.refl _ _⟩
  case round =>
    obtain ⟨k, R, Bf, hk, rfl, L, hbel⟩ := hrel
    have hsr := Below.size hbel
    obtain ⟨op, kp, rfl⟩ := L.pl.form
    obtain ⟨oi, ki, rfl⟩ := L.il.form
    by_cases hlt : k < n
    · have hkI : (k : Int) < (n : Int) := by omega
      rcases id hl with h0 | ⟨b, o, rfl, hl'⟩
      · omega
      obtain ⟨c0, c1⟩ := hl' k hlt
      replace c0 := kept_c (bel_tr hb0 hbel) c0
      replace c1 := kept_c (bel_tr hb0 hbel) c1
      obtain ⟨x1, x2, x3, x4, x5⟩ := hX k hlt
      rw [x1] at c1 x2 x5
      have hkI2 : (k : Int) * 2 = ((k * 2 : Nat) : Int) := by omega
      have hr3 := x3.below (bel_tr hb0 hbel)
      clear x1 x3 x4 hl'
      go_wp2_with fail
      refine (lendI (P k) (X k) wr rfl x2 (by omega) hr3).mono ?_
      rintro e w2 ⟨r, bb, rfl, hL2, hr, hx⟩
      have hs2 := Below.size hx
      have L1 := L.lend hsr hx hL2 hr
      replace hbel := bel_tr hbel hx
      have hrow : ∀ t, (Value.slice op k kp).ownBlock = some t → w1.heap.size ≤ t := fun t ht => (L1.pl.lt t ht).1
      clear hx L c0 c1 hr3
      go_wp2_with (at_builtin; refine wpList_appendQ _ rfl _ _ rfl w1.heap.size (.slice op k kp) k (updF R k r) rfl (L1.pl.below (bY0 _ _)) w2.heap.size _ rfl (by rw [updF_same]; exact cell_new1 rfl) (by omega) (by simp; omega) (w2.heap.size + 1) (by simp) ?_)
      intro g1 cap1 w3 Q3 hgrow hat _
      have L2 := (L1.below (bY0 w2 _)).growP Q3 hgrow (hat_next hat (by simp))
      have hb3 : Below w1.heap.size w1 w3 := hbel.trans (((Below.refl _ _).alloc (by omega) _).trans (grown_below hgrow (by simp; omega) hrow))
      have hs3 := Below.size hb3
      have hLk := L2.ln k (Nat.lt_succ_self k)
      rw [updF_same, updF_same] at hLk
      clear hgrow hat hrow hbel L1 Q3 hL2
      go_wp2_with fail
      refine (intI _ hLk).mono ?_
      rintro e w4 ⟨rfl, hx⟩
      have hs4 := Below.size hx
      have L3 := L2.below hx
      have hb4 := bel_tr hb3 hx
      have hrow : ∀ t, (Value.slice oi k ki).ownBlock = some t → w1.heap.size ≤ t := fun t ht => (L3.il.lt t ht).1
      clear hx L2 hb3 hLk
      go_wp2_with (at_builtin; refine wpList_appendI _ rfl _ _ rfl w1.heap.size (.slice oi k ki) k P (inV (updF Bf k bb)) rfl (L3.il.below (bY0 _ _)) w4.heap.size _ rfl (by have V := var2_new w4 (.bool (P k)) (.slice (some ⟨bb.gf, 0, none⟩) bb.n bb.cf) 30; exact ⟨V.c0, by unfold inV; rw [updF_same]; exact V.c1⟩) (by unfold inV; rfl) (by omega) (by simp; omega) (w4.heap.size + 1) (by simp) ?_)
      intro g2 cap2 w5 I5 hgrow hat _
      have L5 := (L3.below (bY0 w4 _)).growI I5 hgrow (hat_next hat (by simp))
      have hb5 : Below w1.heap.size w1 w5 := hb4.trans (((Below.refl _ _).alloc (by omega) _).trans (grown_below hgrow (by simp; omega) hrow))
      clear hgrow hat hrow L3 I5 hb4
      go_wp2
      go_roundw
      case rel => exact ⟨k + 1, updF R k r, updF Bf k bb, by omega, by go_num, L5, hb5⟩
      case measure => simp [intOf]; omega
    · have hkI : ¬ (k : Int) < (n : Int) := by omega
      obtain rfl : k = n := by omega
      go_wp2_with fail
      refine (rofI 77 _ (by decide) (by decide)).mono ?_
      rintro e w2 ⟨f7, c7, n7, d7, rfl, G7, hx⟩
      have hs2 := Below.size hx
      replace L := L.below hx
      replace hbel := bel_tr hbel hx
      clear hx
      go_wp2_with fail
      refine (rofI 78 _ (by decide) (by decide)).mono ?_
      rintro e w3 ⟨f8, c8, n8, d8, rfl, G8, hx⟩
      have hs3 := Below.size hx
      replace L := L.below hx
      replace G7 := G7.below hx
      replace hbel := bel_tr hbel hx
      have hrow : ∀ t, (Value.slice oi k ki).ownBlock = some t → w1.heap.size ≤ t := fun t ht => (L.il.lt t ht).1
      clear hx
      go_wp2_with (at_builtin; refine wpList_appendI2 _ rfl _ _ rfl w1.heap.size (.slice oi k ki) k P (inV Bf) rfl (L.il.below (bY0 _ _)) w3.heap.size _ rfl f7 f8 (.slice c7 n7 d7) (.slice c8 n8 d8) (cell_new4 rfl) rfl rfl (by omega) (by simp; omega) (w3.heap.size + 1) (by simp) ?_)
      intro g cap w4 I4 hgrow hat _
      have H := (L.below (bY0 w3 _)).hd I4 (fun i hi => ⟨by rw [updF_lt (by omega), updF_lt hi], by rw [updF_lt (by omega), updF_lt hi]⟩) hgrow
      have hI7 := I4.cells k (by omega)
      have hI8 := I4.cells (k + 1) (by omega)
      rw [updF_lt (Nat.lt_succ_self _), updF_same, updF_lt (Nat.lt_succ_self _), updF_same] at hI7
      rw [updF_same, updF_same] at hI8
      replace G7 := (G7.below (bY0 w3 (.cells #[.bool f7, .slice c7 n7 d7, .bool f8, .slice c8 n8 d8] 30))).growI (L.il.below (bY0 w3 (.cells #[.bool f7, .slice c7 n7 d7, .bool f8, .slice c8 n8 d8] 30))) hgrow
      replace G8 := (G8.below (bY0 w3 (.cells #[.bool f7, .slice c7 n7 d7, .bool f8, .slice c8 n8 d8] 30))).growI (L.il.below (bY0 w3 (.cells #[.bool f7, .slice c7 n7 d7, .bool f8, .slice c8 n8 d8] 30))) hgrow
      have hb4 : Below w1.heap.size w1 w4 := hbel.trans (((Below.refl _ _).alloc (by omega) _).trans (grown_below hgrow (by simp; omega) hrow))
      have hs4 := Below.size hb4
      have hcap := H.cap
      have HGF : Hid (∀ i, i < k → (Bf i).gf < w4.heap.size ∧ (Bf i).gw < w4.heap.size ∧ w.heap.size ≤ (Bf i).gf ∧ w.heap.size ≤ (Bf i).gw) := fun i hi => by
        have h1 := H.ln i hi
        have h2 := H.lo i hi
        have h3 := h1.ls.lf
        have h4 := h1.ls.lw
        have h5 := h1.lf
        have h6 := h1.lw
        have h7 := h1.lt
        omega
      have hTI : ∀ i, i < k → TI w (P i) (A i) (N i) (C i) (ws (P i) (val (X i))) 1048576 := fun i hi => by
        obtain ⟨x1, x2, x3, x4, x5⟩ := hX i hi
        exact ⟨val (X i), ⟨X i, x1, x2, x3, x4, rfl, x5⟩, rfl⟩
      have hAW : ∀ i, i < k → AllW (X i) ∧ (X i).length ≤ 1048576 := fun i hi => by
        obtain ⟨x1, x2, x3, x4, x5⟩ := hX i hi
        exact ⟨x4, by omega⟩
      have hbw := bel_tr hb0 hb4
      generalize hP2 : updF (updF P k f7) (k + 1) f8 = P2 at *
      generalize hV2 : updF (updF (inV Bf) k (.slice c7 n7 d7)) (k + 1) (.slice c8 n8 d8) = VF at *
      clear hgrow hat hrow L I4 hbel hP2 hV2 hb4 hb0
      go_wp2_with fail
      refine (rsumD al k cl P A N C (fun i => ws (P i) (val (X i))) 1048576 _ (hl.below hbw) (fun i hi => (hTI i hi).below hbw) (by omega) (by omega)).mono ?_
      rintro e w5 ⟨fw, cw, nw, kw, rfl, Gw, hx⟩
      have hs5 := Below.size hx
      replace H := H.below hx
      replace G7 := G7.below hx
      replace G8 := G8.below hx
      replace hI7 := And.intro (kept_c hx hI7.1) (kept_c hx hI7.2)
      replace hI8 := And.intro (kept_c hx hI8.1) (kept_c hx hI8.2)
      replace hbw := bel_tr hbw hx
      clear hx
      have hx := bY0 w5 (.cells #[.bool fw, .slice cw nw kw] 30)
      have hsw6 := Below.size hx
      replace H := H.below hx
      replace G7 := G7.below hx
      replace G8 := G8.below hx
      replace Gw := Gw.below hx
      replace hI7 := And.intro (kept_c hx hI7.1) (kept_c hx hI7.2)
      replace hI8 := And.intro (kept_c hx hI8.1) (kept_c hx hI8.2)
      replace hbw := bel_tr hbw hx
      have Vw := var2_new w5 (.bool fw) (.slice cw nw kw) 30
      clear hx
      have hI1 : (0 : Int) ≤ (k : Int) := by omega
      have hI2 : (k : Int) ≤ (cap : Int) := by omega
      go_wp2_with fail
      generalize w5.alloc (.cells #[.bool fw, .slice cw nw kw] 30) = w6 at *
      refine (sumT g cap k P (fun i => some ⟨(Bf i).gf, 0, none⟩) (fun i => (Bf i).n) (fun i => (Bf i).cf) (fun i => ws (P i) (val (X i))) 1048576 _ H.cells (fun i hi => (H.ln i hi).ti (hAW i hi).1 (hAW i hi).2) (by omega) (by omega)).mono ?_
      rintro e w7 ⟨f1, c1, n1, k1, rfl, G1, hx⟩
      have HOA : ∀ b, (Value.slice c1 n1 k1).ownBlock = some b → b < w7.heap.size := fun b hb => (G1.gotY.2.lt b hb).2
      have hs7 := Below.size hx
      replace H := H.below hx
      replace G7 := G7.below hx
      replace G8 := G8.below hx
      replace Gw := Gw.below hx
      replace Vw := Vw.below hx
      replace hI7 := And.intro (kept_c hx hI7.1) (kept_c hx hI7.2)
      replace hI8 := And.intro (kept_c hx hI8.1) (kept_c hx hI8.2)
      replace hbw := bel_tr hbw hx
      clear hx
      have hx := bY0 w7 (.cells #[.bool f1, .slice c1 n1 k1] 30)
      have hsw8 := Below.size hx
      replace H := H.below hx
      replace G7 := G7.below hx
      replace G8 := G8.below hx
      replace Gw := Gw.below hx
      replace Vw := Vw.below hx
      replace G1 := G1.below hx
      replace hI7 := And.intro (kept_c hx hI7.1) (kept_c hx hI7.2)
      replace hI8 := And.intro (kept_c hx hI8.1) (kept_c hx hI8.2)
      replace hbw := bel_tr hbw hx
      have V1 := var2_new w7 (.bool f1) (.slice c1 n1 k1) 30
      clear hx
      go_wp2_with fail
      generalize w7.alloc (.cells #[.bool f1, .slice c1 n1 k1] 30) = w8 at *
      refine (sumT g cap k P (fun i => some ⟨(Bf i).gf, 0, none⟩) (fun i => (Bf i).n) (fun i => (Bf i).cf) (fun i => ws (P i) (val (X i))) 1048576 _ H.cells (fun i hi => (H.ln i hi).ti (hAW i hi).1 (hAW i hi).2) (by omega) (by omega)).mono ?_
      rintro e w9 ⟨f2, c2, n2, k2, rfl, G2, hx⟩
      have hs9 := Below.size hx
      replace H := H.below hx
      replace G7 := G7.below hx
      replace G8 := G8.below hx
      replace Gw := Gw.below hx
      replace Vw := Vw.below hx
      replace G1 := G1.below hx
      replace V1 := V1.below hx
      replace hI7 := And.intro (kept_c hx hI7.1) (kept_c hx hI7.2)
      replace hI8 := And.intro (kept_c hx hI8.1) (kept_c hx hI8.2)
      replace hbw := bel_tr hbw hx
      clear hx
      have hx := bY0 w9 (.cells #[.bool f2, .slice c2 n2 k2] 30)
      have hsw10 := Below.size hx
      replace H := H.below hx
      replace G7 := G7.below hx
      replace G8 := G8.below hx
      replace Gw := Gw.below hx
      replace Vw := Vw.below hx
      replace G1 := G1.below hx
      replace V1 := V1.below hx
      replace G2 := G2.below hx
      replace hI7 := And.intro (kept_c hx hI7.1) (kept_c hx hI7.2)
      replace hI8 := And.intro (kept_c hx hI8.1) (kept_c hx hI8.2)
      replace hbw := bel_tr hbw hx
      have V2 := var2_new w9 (.bool f2) (.slice c2 n2 k2) 30
      clear hx
      obtain ⟨p0, p1, p2, p3⟩ := id V1
      obtain ⟨q0, q1, q2, q3⟩ := id Vw
      go_wp2_with fail
      generalize w9.alloc (.cells #[.bool f2, .slice c2 n2 k2] 30) = w10 at *
      refine (rsameI _ G1 Gw (by omega) rfl).mono ?_
      rintro e w11 ⟨rfl, hx⟩
      clear p0 p1 p2 p3 q0 q1 q2 q3
      have hs11 := Below.size hx
      replace H := H.below hx
      replace G7 := G7.below hx
      replace G8 := G8.below hx
      replace Gw := Gw.below hx
      replace Vw := Vw.below hx
      replace G1 := G1.below hx
      replace V1 := V1.below hx
      replace G2 := G2.below hx
      replace V2 := V2.below hx
      replace hI7 := And.intro (kept_c hx hI7.1) (kept_c hx hI7.2)
      replace hI8 := And.intro (kept_c hx hI8.1) (kept_c hx hI8.2)
      replace hbw := bel_tr hbw hx
      clear hx
      obtain ⟨p0, p1, p2, p3⟩ := id V2
      obtain ⟨q0, q1, q2, q3⟩ := id Vw
      go_wp2_with fail
      refine (rsameI _ G2 Gw (by omega) rfl).mono ?_
      rintro e w12 ⟨rfl, hx⟩
      clear p0 p1 p2 p3 q0 q1 q2 q3
      have hs12 := Below.size hx
      replace H := H.below hx
      replace G7 := G7.below hx
      replace G8 := G8.below hx
      replace Gw := Gw.below hx
      replace Vw := Vw.below hx
      replace G1 := G1.below hx
      replace V1 := V1.below hx
      replace G2 := G2.below hx
      replace V2 := V2.below hx
      replace hI7 := And.intro (kept_c hx hI7.1) (kept_c hx hI7.2)
      replace hI8 := And.intro (kept_c hx hI8.1) (kept_c hx hI8.2)
      replace hbw := bel_tr hbw hx
      clear hx
      have e8 : (k + 1) * 2 = k * 2 + 2 := by omega
      rw [e8] at hI8
      obtain ⟨i70, i71⟩ := id hI7
      obtain ⟨i80, i81⟩ := id hI8
      have hkI2 : (k : Int) * 2 = ((k * 2 : Nat) : Int) := by omega
      have hkI3 : ((k : Int) + 1) * 2 = ((k * 2 + 2 : Nat) : Int) := by omega
      have hkI4 : (k : Int) < ((k + 2 : Nat) : Int) := by omega
      have hkI5 : (k : Int) + 1 < ((k + 2 : Nat) : Int) := by omega
      have hkI6 : (k : Int) + 1 < (k : Int) + 2 := by omega
      have hkI7 : (k : Int) < (k : Int) + 2 := by omega
      have hkI8 : IntKind.i64.wrap ((k : Int) + 1) = (k : Int) + 1 := by rw [IntKind.wrap_i64]; omega
      have hkI9 : (0 : Int) ≤ (k : Int) + 1 := by omega
      have hkIa : ((k : Int) + 1).toNat = k + 1 := by omega
      have HB : ∀ w', Below w12.heap.size w12 w' → w'.cell? ⟨g, k * 2, none⟩ = some (.bool f7) ∧ w'.cell? ⟨g, k * 2 + 1, none⟩ = some (.slice c7 n7 d7) ∧ w'.cell? ⟨g, k * 2 + 2, none⟩ = some (.bool f8) ∧ w'.cell? ⟨g, k * 2 + 2 + 1, none⟩ = some (.slice c8 n8 d8) := fun w' h => ⟨kept_c h i70, kept_c h i71, kept_c h i80, kept_c h i81⟩
      go_wp2_with fail
      go_region_held3 (fun w' => w'.cell? ⟨g, k * 2, none⟩ = some (.bool f7) ∧ w'.cell? ⟨g, k * 2 + 1, none⟩ = some (.slice c7 n7 d7) ∧ w'.cell? ⟨g, k * 2 + 2, none⟩ = some (.bool f8) ∧ w'.cell? ⟨g, k * 2 + 2 + 1, none⟩ = some (.slice c8 n8 d8))
        (with_reducible refine HB _ ?_; first | with_reducible exact hc4 | with_reducible exact hc3 | with_reducible exact hc2 | with_reducible exact hc1 | with_reducible exact bY1 _)
        ((first
          | (go_at_call 9; go_fit (rofI 77 _ (by decide) (by decide)); rintro e v1 ⟨y1, y2, y3, y4, rfl, K1, hd1⟩; have hc1 : Below w12.heap.size w12 v1 := bel_tr (bY1 w12) hd1)
          | (go_at_call 12; go_fit (rsameI _ (G7.below hc1) K1 (by omega) rfl); rintro e v2 ⟨rfl, hd2⟩; have hc2 : Below w12.heap.size w12 v2 := bel_tr hc1 hd2)
          | (go_at_call 9; go_fit (rofI 78 _ (by decide) (by decide)); rintro e v3 ⟨y5, y6, y7, y8, rfl, K3, hd3⟩; have hc3 : Below w12.heap.size w12 v3 := bel_tr hc2 hd3)
          | (go_at_call 12; go_fit (rsameI _ (G8.below hc3) K3 (by omega) rfl); rintro e v4 ⟨rfl, hd4⟩; have hc4 : Below w12.heap.size w12 v4 := bel_tr hc3 hd4)))
      have hs13 := Below.size hc4
      replace H := H.below hc4
      replace Gw := Gw.below hc4
      replace Vw := Vw.below hc4
      replace G1 := G1.below hc4
      replace V1 := V1.below hc4
      replace G2 := G2.below hc4
      replace V2 := V2.below hc4
      replace hbw := bel_tr hbw hc4
      clear hd1 hd2 hd3 hd4 hc1 hc2 hc3 hc4 K1 K3 G7 G8 hI7 hI8 i70 i71 i80 i81 HB e8 hkI2 hkI3 hkI4 hkI5 hkI6 hkI7 hkI8 hkI9 hkIa
      replace Gw := Gw.mono (B' := w4.heap.size) (by omega)
      replace G1 := G1.mono (B' := w4.heap.size) (by omega)
      have HO1 : Hid (∀ b, (Value.slice c1 n1 k1).ownBlock = some b → b < w7.heap.size) := HOA
      go_wp2
      go_loopw [15] (fun s wr => ∃ (q : Nat) (Y : Nat → List Int), q ≤ k ∧ s = .int .i64 q ∧ HD wr w1.heap.size k R P P2 Bf VF Y (.slice op k kp) g cap ∧ Hid (∀ i, q ≤ i → Y i = X i) ∧ Hid (∀ i, i < k → AllW (Y i) ∧ (Y i).length ≤ 1048576) ∧ GI wr w4.heap.size (.agg #[.bool fw, .slice cw nw kw]) (isum (fun i => ws (P i) (val (X i))) k) 1048577 ∧ GI wr w4.heap.size (.agg #[.bool f1, .slice c1 n1 k1]) (isum (fun i => ws (P i) (val (X i))) k) 1048577 ∧ GI wr w8.heap.size (.agg #[.bool f2, .slice c2 n2 k2]) (isum (fun i => ws (P i) (val (X i))) k) 1048577 ∧ Var2 wr w5.heap.size (.bool fw) (.slice cw nw kw) ∧ Var2 wr w7.heap.size (.bool f1) (.slice c1 n1 k1) ∧ Var2 wr w9.heap.size (.bool f2) (.slice c2 n2 k2) ∧ Below w.heap.size w wr ∧ v4.heap.size ≤ wr.heap.size) (fun s _ => k - (intOf s).toNat)
      case atStart => exact ⟨0, X, Nat.zero_le _, rfl, H, fun _ _ => rfl, hAW, Gw, G1, G2, Vw, V1, V2, hbw, Nat.le_refl _⟩
      case round =>
        clear H Gw G1 G2 Vw V1 V2 hbw hAW
        obtain ⟨q, Y, hq, rfl, H, HY, HA, Gw, G1, G2, Vw, V1, V2, hbw, hsz⟩ := hrel
        by_cases hlt : q < k
        · have hqI : (q : Int) < (k : Int) := by omega
          have hYq : Y q = X q := HY.out q (Nat.le_refl _)
          have hLq := H.ln q hlt
          rw [hYq] at hLq
          obtain ⟨gp, cp, e, hcp, hPc⟩ := H.pl.cells (by omega)
          simp only [Value.slice.injEq] at e
          obtain ⟨rfl, _, rfl⟩ := e
          have hPq := hPc q hlt
          obtain ⟨hA1, hA2⟩ := HA.out q hlt
          rw [hYq] at hA1 hA2
          clear hPc
          go_wp2_with fail
          refine (keptI _ hLq (by omega)).mono ?_
          rintro e w13 ⟨rfl, hx⟩
          have hs14 := Below.size hx
          replace hLq := hLq.below hx
          replace hPq := kept_c hx hPq
          replace H := H.below hx
          replace Gw := Gw.below hx
          replace G1 := G1.below hx
          replace G2 := G2.below hx
          replace Vw := Vw.below hx
          replace V1 := V1.below hx
          replace V2 := V2.below hx
          replace hbw := bel_tr hbw hx
          clear hx
          obtain ⟨i0, i1⟩ := H.cells q hlt
          rcases id hl with h0 | ⟨b, o, rfl, hl'⟩
          · omega
          obtain ⟨x1, x2, x3, x4, x5⟩ := hX q hlt
          obtain ⟨y0, y1⟩ := hl' q hlt
          replace y0 := kept_c hbw y0
          replace y1 := kept_c hbw y1
          rw [x1] at y1 x5
          rw [hLq.hn] at i1
          have hra := hLq.reads
          have hrb := x3.below hbw
          have hqI2 : (q : Int) * 2 = ((q * 2 : Nat) : Int) := by omega
          have hqI3 : (q : Int) < ((k + 2 : Nat) : Int) := by omega
          have hqI4 : (q : Int) < (k : Int) + 2 := by omega
          have HB : ∀ w', Below w13.heap.size w13 w' → w'.cell? ⟨g, q * 2, none⟩ = some (.bool (P q)) ∧ w'.cell? ⟨g, q * 2 + 1, none⟩ = some (.slice (some ⟨(Bf q).gf, 0, none⟩) (X q).length (Bf q).cf) ∧ w'.cell? ⟨b, o + q * 2, none⟩ = some (.bool (P q)) ∧ w'.cell? ⟨b, o + q * 2 + 1, none⟩ = some (.slice (A q) (X q).length (C q)) := fun w' h => ⟨kept_c h i0, kept_c h i1, kept_c h y0, kept_c h y1⟩
          clear x1 x2 x3 x4 hl'
          go_wp2_with fail
          go_region_held3 (fun w' => w'.cell? ⟨g, q * 2, none⟩ = some (.bool (P q)) ∧ w'.cell? ⟨g, q * 2 + 1, none⟩ = some (.slice (some ⟨(Bf q).gf, 0, none⟩) (X q).length (Bf q).cf) ∧ w'.cell? ⟨b, o + q * 2, none⟩ = some (.bool (P q)) ∧ w'.cell? ⟨b, o + q * 2 + 1, none⟩ = some (.slice (A q) (X q).length (C q)))
            (with_reducible refine HB _ ?_; first | with_reducible exact hc1 | with_reducible exact bY1 _)
            ((go_at_call 12; go_fit (rsameX (X q) _ (hra.below (bY1 _)) (hrb.below (bY1 _)) (by omega)); rintro e w14 ⟨rfl, hd1⟩; have hc1 : Below w13.heap.size w13 w14 := bel_tr (bY1 w13) hd1))
          have hs15 := Below.size hc1
          replace hLq := hLq.below hc1
          replace hPq := kept_c hc1 hPq
          replace H := H.below hc1
          replace Gw := Gw.below hc1
          replace G1 := G1.below hc1
          replace G2 := G2.below hc1
          replace Vw := Vw.below hc1
          replace V1 := V1.below hc1
          replace V2 := V2.below hc1
          replace hbw := bel_tr hbw hc1
          clear hd1 hc1 i0 i1 y0 y1 hra hrb HB
          have hgf := HGF.out q hlt
          go_wp2_with fail
          refine (turnI _ hLq hA1 (by omega)).mono ?_
          rintro e w15 ⟨rfl, ys, hLy, hy1, hy2, ho⟩
          have H' := H.turn hlt ho hLy
          have Gw' := Gw.off2 ho hgf.1 hgf.2.1
          have G1' := G1.off2 ho hgf.1 hgf.2.1
          have G2' := G2.off2 ho (by omega) (by omega)
          have Vw' := Vw.off2 ho (by omega) (by omega)
          have V1' := V1.off2 ho (by omega) (by omega)
          have V2' := V2.off2 ho (by omega) (by omega)
          have hbw' := hbw.trans (ho.below hgf.2.2.1 hgf.2.2.2)
          have hso := ho.size
          have HY' : Hid (∀ i, q + 1 ≤ i → updF Y q ys i = X i) := fun i hi => by
            have e : updF Y q ys i = Y i := by unfold updF; rw [if_neg (by omega)]
            rw [e]; exact HY.out i (by omega)
          have HA' : Hid (∀ i, i < k → AllW (updF Y q ys i) ∧ (updF Y q ys i).length ≤ 1048576) := fun i hi => by
            unfold updF
            split
            · exact ⟨hy2, by omega⟩
            · exact HA.out i hi
          clear H Gw G1 G2 Vw V1 V2 hbw ho hLq hLy HY HA hPq
          go_wp2
          go_roundw
          case rel => exact ⟨q + 1, updF Y q ys, by omega, by go_num, H', HY', HA', Gw', G1', G2', Vw', V1', V2', hbw', by omega⟩
          case measure => simp [intOf]; omega
        · have hqI : ¬ (q : Int) < (k : Int) := by omega
          obtain ⟨p0, p1, p2, p3⟩ := id V1
          obtain ⟨q0, q1, q2, q3⟩ := id Vw
          go_wp2_with fail
          refine (rsameI _ G1 Gw (by omega) rfl).mono ?_
          rintro e w13 ⟨rfl, hx⟩
          clear p0 p1 p2 p3 q0 q1 q2 q3
          have hs14 := Below.size hx
          replace H := H.below hx
          replace Gw := Gw.below hx
          replace G1 := G1.below hx
          replace G2 := G2.below hx
          replace Vw := Vw.below hx
          replace V1 := V1.below hx
          replace V2 := V2.below hx
          replace hbw := bel_tr hbw hx
          clear hx
          obtain ⟨xa, oa1, oa2, oa3, oa4⟩ := (G1.gotY.2.below (bY0 w13 (.cells #[.bool f1, .slice c1 n1 k1, .bool f2, .slice c2 n2 k2] 30))).mono (B' := w.heap.size) (by omega)
          obtain ⟨xb, ob1, ob2, ob3, ob4⟩ := (G2.gotY.2.below (bY0 w13 (.cells #[.bool f1, .slice c1 n1 k1, .bool f2, .slice c2 n2 k2] 30))).mono (B' := w.heap.size) (by omega)
          have hlt2 := G2.gotY.2.lt
          have hs15 : w.heap.size ≤ (w13.alloc (.cells #[.bool f1, .slice c1 n1 k1, .bool f2, .slice c2 n2 k2] 30)).heap.size := by simp; omega
          have hcells := cell_new4 (w := w13) (h := w13.heap.size) (u := .bool f1) (v := .slice c1 n1 k1) (z := .bool f2) (y := .slice c2 n2 k2) (t := 30) rfl
          have hap := rapartI w13.heap.size 2 2 w.heap.size (fun i => if i = 0 then c1 else c2) (fun i => if i = 0 then n1 else n2) (fun i => if i = 0 then k1 else k2) (fun i => if i = 0 then xa else xb) (w13.alloc (.cells #[.bool f1, .slice c1 n1 k1, .bool f2, .slice c2 n2 k2] 30))
            (fun i hi => by
              rcases (by omega : i = 0 ∨ i = 1) with rfl | rfl
              · exact hcells.2.1
              · exact hcells.2.2.2)
            (fun i hi => by
              rcases (by omega : i = 0 ∨ i = 1) with rfl | rfl
              · exact oa1
              · exact ob1)
            (fun i j hi hj hij b h1 h2 => by
              rcases (by omega : (i = 0 ∧ j = 1) ∨ (i = 1 ∧ j = 0)) with ⟨rfl, rfl⟩ | ⟨rfl, rfl⟩
              · have a1 := HO1.out b h1
                have a2 := hlt2 b h2
                omega
              · have a1 := HO1.out b h2
                have a2 := hlt2 b h1
                omega)
            (by decide) (by decide)
            (fun i hi => by
              rcases (by omega : i = 0 ∨ i = 1) with rfl | rfl
              · show xa.length ≤ _; omega
              · show xb.length ≤ _; omega) hs15
          obtain ⟨p0, p1, p2, p3⟩ := id V1
          obtain ⟨q0, q1, q2, q3⟩ := id V2
          go_wp2_with fail
          refine hap.mono ?_
          rintro e w14 ⟨rfl, hx⟩
          have hbE := (hbw.trans ((bY0 w13 _).mono (by omega))).trans hx
          clear p0 p1 p2 p3 q0 q1 q2 q3
          go_wp2
          go_ret
          exact ⟨rfl, hbE⟩
end Go.Proofs.YtkbbdfflodiddabDoor

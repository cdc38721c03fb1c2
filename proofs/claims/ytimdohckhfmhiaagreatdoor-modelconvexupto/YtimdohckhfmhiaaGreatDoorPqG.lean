import Derived.Test.YtimdohckhfmhiaaGreatDoorPqF
namespace Go.Proofs.YtimdohckhfmhiaaGreatDoor
open Go.RowKit

theorem cs_same {r s : Rat} (h : r = s) : 0 = cs r s := by
  subst h
  unfold cs
  rw [Int.sub_self]
  rfl
set_option maxRecDepth 100000 in
set_option maxHeartbeats 8000000 in
/-- x + t (y - x), number by number. -/
theorem betweenQ {xa : Option Addr} {nx xc : Nat} {X : Nat → Rat} {Zx : Nat → Nat} {ya : Option Addr} {ny yc : Nat} {Y : Nat → Rat} {Zy : Nat → Nat} {p : Bool} {a : Option Addr} {na ca : Nat} {d : Option Addr} {nd cd : Nat} {t : Rat} {K T U q : Nat} (w : World) (hx : LQ w xa nx X Zx) (hy : LQ w ya ny Y Zy) (ht : TR w p a na ca d nd cd t K) (hq : q = min nx ny)
    (hz : ∀ j, j < q → 1 ≤ Zx j ∧ 1 ≤ Zy j ∧ Zx j + Zy j ≤ 6000000 ∧ Zx j + U ≤ 6000000) (hU1 : 1 ≤ U) (hKU : K + U ≤ 6000000) (hU : ∀ j, j < q → SzR (Y j - X j) U ∧ SzR (t * (Y j - X j)) U) (hK1 : 1 ≤ K) (hsz : ∀ j, j < q → SzR (X j + t * (Y j - X j)) T) (hq1 : q ≤ 1100000) (hT : TB w) :
    Calls Tryz.prog 27 #[.slice xa nx xc, .slice ya ny yc, .agg #[.bool p, .slice a na ca, .slice d nd cd]] w fun e w' => ∃ a cap, e = .returned (.slice a q cap) ∧ LQ w' a q (fun j => X j + t * (Y j - X j)) (fun _ => T) ∧ q ≤ cap ∧ Below w.heap.size w w' := by
  have HS : Hid (∀ j, j < q → SzR (X j + t * (Y j - X j)) T) := hsz
  have HU : Hid (∀ j, j < q → SzR (Y j - X j) U ∧ SzR (t * (Y j - X j)) U) := hU
  have hqx : q ≤ nx := by omega
  have hqy : q ≤ ny := by omega
  have hq3 : q = nx ∨ q = ny := by omega
  have P0 := var3_new w (.bool p) (.slice a na ca) (.slice d nd cd) 27
  have hb := bel_d0 w (.cells #[.bool p, .slice a na ca, .slice d nd cd] 27)
  have hs : w.heap.size + 1 ≤ (w.alloc (.cells #[.bool p, .slice a na ca, .slice d nd cd] 27)).heap.size := by simp
  clear hsz hq hU
  go_enter Tryz.func27, Tryz.ntmps27
  go_wp2
  generalize w.alloc (.cells #[.bool p, .slice a na ca, .slice d nd cd] 27) = W at *
  go_loopw [7, 8] (fun s7 s8 wr => ∃ (i : Nat), i ≤ q ∧ s8 = .int .i64 i ∧ ML wr (w.heap.size + 1) s7 i (fun j => X j + t * (Y j - X j)) T ∧ Var3 wr w.heap.size (.bool p) (.slice a na ca) (.slice d nd cd) ∧ Below w.heap.size w wr ∧ w.heap.size + 1 ≤ wr.heap.size) (fun _ s8 _ => q - (intOf s8).toNat)
  case atStart => exact ⟨0, Nat.zero_le _, rfl, (RL.nil _ _ _ _).ml, P0, hb, hs⟩
  case round =>
    obtain ⟨i, hi, rfl, L, V, hbel, hsr⟩ := hrel
    clear P0 hb
    obtain ⟨o1, k1, rfl⟩ := L.form
    by_cases hlt : i < q
    · have hkX : (i : Int) < (nx : Int) := by omega
      have hkY : (i : Int) < (ny : Int) := by omega
      obtain ⟨hz1, hz2, hz3, hz4⟩ := hz i hlt
      rcases (hx.below hbel) with h0 | ⟨bx, ox, rfl, helx⟩
      · omega
      rcases (hy.below hbel) with h0 | ⟨bY, oY, rfl, hely⟩
      · omega
      obtain ⟨pA, aA, nA, cA, dA, mA, lA, a0, a1, a2, hA⟩ := helx i (by omega)
      obtain ⟨pB, aB, nB, cB, dB, mB, lB, b0, b1, b2, hB⟩ := hely i (by omega)
      have hbx : bx < w.heap.size := by
        rcases hx with h0 | ⟨b', o', e', hev'⟩
        · omega
        · simp only [Option.some.injEq, Addr.mk.injEq] at e'
          obtain ⟨rfl, _, _⟩ := e'
          obtain ⟨_, _, _, _, _, _, _, h, _⟩ := hev' i (by omega)
          exact World.block_lt_of_cell? _ _ h
      have hby : bY < w.heap.size := by
        rcases hy with h0 | ⟨b', o', e', hev'⟩
        · omega
        · simp only [Option.some.injEq, Addr.mk.injEq] at e'
          obtain ⟨rfl, _, _⟩ := e'
          obtain ⟨_, _, _, _, _, _, _, h, _⟩ := hev' i (by omega)
          exact World.block_lt_of_cell? _ _ h
      have hkI3 : (i : Int) * 3 = ((i * 3 : Nat) : Int) := by omega
      have hC := ht.below hbel
      have hTw := hT.below hbel
      have hrow : ∀ g, (Value.slice o1 i k1).ownBlock = some g → w.heap.size + 1 ≤ g ∧ g < wr.heap.size := fun g hg => L.lt g hg
      have HS1 : Hid (SzR (X i + t * (Y i - X i)) T) := HS.out i hlt
      have HU1 : Hid (SzR (Y i - X i) U ∧ SzR (t * (Y i - X i)) U) := HU.out i hlt
      obtain ⟨t0, t1, t2, _, _, _⟩ := id V
      have HB : ∀ w', Below wr.heap.size wr w' → (w'.cell? ⟨bx, ox + i * 3, none⟩ = some (.bool pA) ∧ w'.cell? ⟨bx, ox + i * 3 + 1, none⟩ = some (.slice aA nA cA) ∧ w'.cell? ⟨bx, ox + i * 3 + 2, none⟩ = some (.slice dA mA lA) ∧ w'.cell? ⟨bY, oY + i * 3, none⟩ = some (.bool pB) ∧ w'.cell? ⟨bY, oY + i * 3 + 1, none⟩ = some (.slice aB nB cB) ∧ w'.cell? ⟨bY, oY + i * 3 + 2, none⟩ = some (.slice dB mB lB) ∧ w'.cell? ⟨w.heap.size, 0, none⟩ = some (.bool p) ∧ w'.cell? ⟨w.heap.size, 1, none⟩ = some (.slice a na ca) ∧ w'.cell? ⟨w.heap.size, 2, none⟩ = some (.slice d nd cd)) := fun w' h => ⟨kept_c h a0, kept_c h a1, kept_c h a2, kept_c h b0, kept_c h b1, kept_c h b2, kept_c h t0, kept_c h t1, kept_c h t2⟩
      have HG : ∀ V w' : World, (V.cell? ⟨bx, ox + i * 3, none⟩ = some (.bool pA) ∧ V.cell? ⟨bx, ox + i * 3 + 1, none⟩ = some (.slice aA nA cA) ∧ V.cell? ⟨bx, ox + i * 3 + 2, none⟩ = some (.slice dA mA lA) ∧ V.cell? ⟨bY, oY + i * 3, none⟩ = some (.bool pB) ∧ V.cell? ⟨bY, oY + i * 3 + 1, none⟩ = some (.slice aB nB cB) ∧ V.cell? ⟨bY, oY + i * 3 + 2, none⟩ = some (.slice dB mB lB) ∧ V.cell? ⟨w.heap.size, 0, none⟩ = some (.bool p) ∧ V.cell? ⟨w.heap.size, 1, none⟩ = some (.slice a na ca) ∧ V.cell? ⟨w.heap.size, 2, none⟩ = some (.slice d nd cd)) → V.grownBy w' (Value.slice o1 i k1).ownBlock → (w'.cell? ⟨bx, ox + i * 3, none⟩ = some (.bool pA) ∧ w'.cell? ⟨bx, ox + i * 3 + 1, none⟩ = some (.slice aA nA cA) ∧ w'.cell? ⟨bx, ox + i * 3 + 2, none⟩ = some (.slice dA mA lA) ∧ w'.cell? ⟨bY, oY + i * 3, none⟩ = some (.bool pB) ∧ w'.cell? ⟨bY, oY + i * 3 + 1, none⟩ = some (.slice aB nB cB) ∧ w'.cell? ⟨bY, oY + i * 3 + 2, none⟩ = some (.slice dB mB lB) ∧ w'.cell? ⟨w.heap.size, 0, none⟩ = some (.bool p) ∧ w'.cell? ⟨w.heap.size, 1, none⟩ = some (.slice a na ca) ∧ w'.cell? ⟨w.heap.size, 2, none⟩ = some (.slice d nd cd)) :=
        fun V w' h hg => ⟨keep_ne hg h.1 (fun e => by have := hrow _ e; simp at this; omega), keep_ne hg h.2.1 (fun e => by have := hrow _ e; simp at this; omega), keep_ne hg h.2.2.1 (fun e => by have := hrow _ e; simp at this; omega), keep_ne hg h.2.2.2.1 (fun e => by have := hrow _ e; simp at this; omega), keep_ne hg h.2.2.2.2.1 (fun e => by have := hrow _ e; simp at this; omega), keep_ne hg h.2.2.2.2.2.1 (fun e => by have := hrow _ e; simp at this; omega), keep_ne hg h.2.2.2.2.2.2.1 (fun e => by have := hrow _ e; simp at this; omega), keep_ne hg h.2.2.2.2.2.2.2.1 (fun e => by have := hrow _ e; simp at this; omega), keep_ne hg h.2.2.2.2.2.2.2.2 (fun e => by have := hrow _ e; simp at this; omega)⟩
      clear helx hely
      go_wp2_with fail
      go_region_held3 (fun w' => w'.cell? ⟨bx, ox + i * 3, none⟩ = some (.bool pA) ∧ w'.cell? ⟨bx, ox + i * 3 + 1, none⟩ = some (.slice aA nA cA) ∧ w'.cell? ⟨bx, ox + i * 3 + 2, none⟩ = some (.slice dA mA lA) ∧ w'.cell? ⟨bY, oY + i * 3, none⟩ = some (.bool pB) ∧ w'.cell? ⟨bY, oY + i * 3 + 1, none⟩ = some (.slice aB nB cB) ∧ w'.cell? ⟨bY, oY + i * 3 + 2, none⟩ = some (.slice dB mB lB) ∧ w'.cell? ⟨w.heap.size, 0, none⟩ = some (.bool p) ∧ w'.cell? ⟨w.heap.size, 1, none⟩ = some (.slice a na ca) ∧ w'.cell? ⟨w.heap.size, 2, none⟩ = some (.slice d nd cd))
        (first | (with_reducible refine HG _ _ (HB _ ?_) hgrow; repeat' (first | with_reducible exact hc3 | with_reducible exact hc2 | with_reducible exact hc1 | with_reducible exact Below.refl _ _ | with_reducible refine bel_dr ?_ | with_reducible refine bel_a ?_)) | (with_reducible refine HB _ ?_; repeat' (first | with_reducible exact hc3 | with_reducible exact hc2 | with_reducible exact hc1 | with_reducible exact Below.refl _ _ | with_reducible refine bel_dr ?_ | with_reducible refine bel_a ?_)))
        ((first
          | (go_at_call 30; go_fit (subQ _ (hB.below (by first | exact bel_d1 _ | exact bel_d2 _ _)) (hA.below (by first | exact bel_d1 _ | exact bel_d2 _ _)) (by omega) (by omega) (by omega) (hTw.below (by first | exact bel_d1 _ | exact bel_d2 _ _))); rintro e v1 ⟨f1, c1, n1, l1, e1, m1, r1, rfl, G1, hb1⟩; have hc1 : Below wr.heap.size wr v1 := (by first | exact bel_tr (bel_d1 _) hb1 | exact bel_tr (bel_d2 _ _) hb1); have hsv1 := Below.size hc1; replace G1 := G1.fit HU1.out.1)
          | (go_at_call 29; go_fit (mulQ _ (hC.below (bel_tr hc1 (by first | exact Below.refl _ _ | exact bel_d1 _ | exact bel_d2 _ _))) (G1.tr.below (by first | exact Below.refl _ _ | exact bel_d1 _ | exact bel_d2 _ _)) (by omega) (by omega) (by omega) (hTw.below (bel_tr hc1 (by first | exact Below.refl _ _ | exact bel_d1 _ | exact bel_d2 _ _)))); rintro e v2 ⟨f2, c2, n2, l2, e2, m2, r2, rfl, G2, hb2⟩; have hc2 : Below wr.heap.size wr v2 := (by first | exact bel_tr hc1 hb2 | exact bel_tr hc1 (bel_tr (bel_d1 _) hb2)); have hsv2 := Below.size hc2; replace G2 := G2.fit HU1.out.2)
          | (go_at_call 28; go_fit (addQ _ (hA.below (bel_tr hc2 (by first | exact Below.refl _ _ | exact bel_d1 _ | exact bel_d2 _ _))) (G2.tr.below (by first | exact Below.refl _ _ | exact bel_d1 _ | exact bel_d2 _ _)) (by omega) (by omega) (by omega) (hTw.below (bel_tr hc2 (by first | exact Below.refl _ _ | exact bel_d1 _ | exact bel_d2 _ _)))); rintro e v3 ⟨f3, c3, n3, l3, e3, m3, r3, rfl, G3, hb3⟩; have hc3 : Below wr.heap.size wr v3 := (by first | exact bel_tr hc2 hb3 | exact bel_tr hc2 (bel_tr (bel_d1 _) hb3)); have hsv3 := Below.size hc3)
          | (refine step_appendM _ (by rfl) _ _ (by rfl) (w.heap.size + 1) (.slice o1 i k1) i (fun j => X j + t * (Y j - X j)) T (by rfl) ((L.below (by omega) hc3).below (by omega) (bel_d0 _ _)) v3.heap.size _ (by rfl) f3 c3 n3 l3 e3 m3 r3 _ (cell_new3 (by rfl)) (.inl (((G3.fit HS1.out).below (bel_d0 _ _)).mono (by first | omega | (simp; omega)))) (by omega) (by simp; omega) (v3.heap.size + 1) (by simp) ?_; intro g cap1 w3 LN hgrow hat hlt1)))
      have LN' := LN.congr (Y := fun j => X j + t * (Y j - X j)) (fun j hj => by
        by_cases h : j < i
        · simp only [h, if_true]
        · obtain rfl : j = i := by omega
          simp only [h, if_false])
      have V' := ((V.below hc3).alloc (.cells #[.bool f3, .slice c3 n3 l3, .slice e3 m3 r3] 27)).grown hgrow (fun e => by have := hrow _ e; omega)
      have hg2 := grown_below (B := w.heap.size + 1) hgrow (by simp; omega) (fun g hg => (hrow g hg).1)
      have hbel' : Below w.heap.size w w3 := (bel_a (bel_tr hbel hc3)).trans (hg2.mono (by omega))
      have hs4 : v3.heap.size + 1 ≤ w3.heap.size := by have := hg2.size; simpa using this
      have hs5 : w.heap.size + 1 ≤ w3.heap.size := by omega
      clear HB HG LN L V hbel hgrow hat hlt1
      go_wp2
      go_roundw
      case rel => first | exact ⟨i + 1, by omega, by go_num, LN', V', hbel', hs5⟩ | ((repeat apply Exists.intro); refine ⟨?_, rfl⟩; exact ⟨i + 1, by omega, by go_num, LN', V', hbel', hs5⟩)
      case measure => simp [intOf]; omega
    · obtain rfl : i = q := by omega
      have hcap : i ≤ k1 := by
        obtain ⟨vs, h1, _⟩ := L
        rcases h1.2 with ⟨e1, e2⟩ | ⟨g, cap, cur, e1, _, _, h, _⟩
        · omega
        · simp only [Value.slice.injEq] at e1
          omega
      by_cases hkx : i < nx
      · have hkX : (i : Int) < (nx : Int) := by omega
        have hkY : ¬ (i : Int) < (ny : Int) := by omega
        go_wp2
        go_ret
        exact ⟨_, _, rfl, L.lq, hcap, hbel⟩
      · have hkX : ¬ (i : Int) < (nx : Int) := by omega
        go_wp2
        go_ret
        exact ⟨_, _, rfl, L.lq, hcap, hbel⟩
set_option maxRecDepth 100000 in
set_option maxHeartbeats 8000000 in
/-- Lists that are alike. -/
theorem alikeQ {xa : Option Addr} {n xc : Nat} {X : Nat → Rat} {Zx : Nat → Nat} {ya : Option Addr} {yc : Nat} {Y : Nat → Rat} {Zy : Nat → Nat} (w : World) (hx : LQ w xa n X Zx) (hy : LQ w ya n Y Zy) (hz : ∀ j, j < n → 1 ≤ Zx j ∧ 1 ≤ Zy j ∧ Zx j + Zy j ≤ 9000000) (hxy : ∀ j, j < n → X j = Y j) (hn : n ≤ 1100000) :
    Calls Tryz.prog 25 #[.slice xa n xc, .slice ya n yc] w fun e w' => e = .returned (.bool true) ∧ Below w.heap.size w w' := by
  have HE : Hid (∀ j, j < n → X j = Y j) := hxy
  clear hxy
  go_enter Tryz.func25, Tryz.ntmps25
  go_wp2
  go_loopw [5] (fun s5 wr => ∃ (i : Nat), i ≤ n ∧ s5 = .int .i64 i ∧ Below w.heap.size w wr) (fun s5 _ => n - (intOf s5).toNat)
  case atStart => exact ⟨0, Nat.zero_le _, rfl, Below.refl _ _⟩
  case round =>
    obtain ⟨i, hi, rfl, hbel⟩ := hrel
    by_cases hlt : i < n
    · have hkX : (i : Int) < (n : Int) := by omega
      obtain ⟨hz1, hz2, hz3⟩ := hz i hlt
      rcases (hx.below hbel) with h0 | ⟨bx, ox, rfl, helx⟩
      · omega
      rcases (hy.below hbel) with h0 | ⟨bY, oY, rfl, hely⟩
      · omega
      obtain ⟨pA, aA, nA, cA, dA, mA, lA, a0, a1, a2, hA⟩ := helx i (by omega)
      obtain ⟨pB, aB, nB, cB, dB, mB, lB, b0, b1, b2, hB⟩ := hely i (by omega)
      have hkI3 : (i : Int) * 3 = ((i * 3 : Nat) : Int) := by omega
      have HE1 : Hid (X i = Y i) := HE.out i hlt
      have HB : ∀ w', Below wr.heap.size wr w' → (w'.cell? ⟨bx, ox + i * 3, none⟩ = some (.bool pA) ∧ w'.cell? ⟨bx, ox + i * 3 + 1, none⟩ = some (.slice aA nA cA) ∧ w'.cell? ⟨bx, ox + i * 3 + 2, none⟩ = some (.slice dA mA lA) ∧ w'.cell? ⟨bY, oY + i * 3, none⟩ = some (.bool pB) ∧ w'.cell? ⟨bY, oY + i * 3 + 1, none⟩ = some (.slice aB nB cB) ∧ w'.cell? ⟨bY, oY + i * 3 + 2, none⟩ = some (.slice dB mB lB)) := fun w' h => ⟨kept_c h a0, kept_c h a1, kept_c h a2, kept_c h b0, kept_c h b1, kept_c h b2⟩
      clear helx hely
      go_wp2_with fail
      go_region_held3 (fun w' => w'.cell? ⟨bx, ox + i * 3, none⟩ = some (.bool pA) ∧ w'.cell? ⟨bx, ox + i * 3 + 1, none⟩ = some (.slice aA nA cA) ∧ w'.cell? ⟨bx, ox + i * 3 + 2, none⟩ = some (.slice dA mA lA) ∧ w'.cell? ⟨bY, oY + i * 3, none⟩ = some (.bool pB) ∧ w'.cell? ⟨bY, oY + i * 3 + 1, none⟩ = some (.slice aB nB cB) ∧ w'.cell? ⟨bY, oY + i * 3 + 2, none⟩ = some (.slice dB mB lB))
        (with_reducible refine HB _ ?_; repeat' (first | with_reducible exact hc3 | with_reducible exact hc2 | with_reducible exact hc1 | with_reducible exact Below.refl _ _ | with_reducible refine bel_dr ?_ | with_reducible refine bel_a ?_))
        ((first
          | (go_at_call 23; go_fit (cmpB 0 _ (hA.below (by first | exact bel_d1 _ | exact bel_d2 _ _)) (hB.below (by first | exact bel_d1 _ | exact bel_d2 _ _)) (by omega) (by omega) (by omega) (cs_same HE1.out)); rintro e v1 ⟨rfl, hb1⟩; have hc1 : Below wr.heap.size wr v1 := (by first | exact bel_tr (bel_d1 _) hb1 | exact bel_tr (bel_d2 _ _) hb1))))
      have hbel' := bel_tr hbel hc1
      clear HB hbel hc1
      go_wp2
      go_roundw
      case rel => first | exact ⟨i + 1, by omega, by go_num, hbel'⟩ | ((repeat apply Exists.intro); refine ⟨?_, rfl⟩; exact ⟨i + 1, by omega, by go_num, hbel'⟩)
      case measure => simp [intOf]; omega
    · have hkX : ¬ (i : Int) < (n : Int) := by omega
      go_wp2
      go_ret
      exact ⟨rfl, hbel⟩
end Go.Proofs.YtimdohckhfmhiaaGreatDoor

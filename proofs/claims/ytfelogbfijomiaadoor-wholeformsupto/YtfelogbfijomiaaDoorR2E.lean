import Derived.Test.YtfelogbfijomiaaDoorR2A
import Derived.Test.YtfelogbfijomiaaDoorWhH
namespace Go.Proofs.YtfelogbfijomiaaDoor
open Go.RowKit

theorem reads_one {w : World} {z : Int} : Num (w.alloc (.cells #[.int .u64 z] 64)) (some ⟨w.heap.size, 0, none⟩) 1 1 z 1 ↔ (0 ≤ z ∧ z < 18446744073709551616) := by
  constructor
  · rintro ⟨xs, h1, h2, h3, h4, h5, h6⟩
    have a := val_nn h4
    have b := val_lt h4
    rw [h5] at a b
    rw [← h1] at b
    have e : pw 1 = 18446744073709551616 := by simp [pw]
    omega
  · rintro ⟨h0, h1⟩
    refine ⟨[z], rfl, Nat.le_refl _, .inr ⟨_, _, rfl, fun i hi => ?_⟩, fun x hx => by simp at hx; subst hx; exact ⟨h0, h1⟩, by simp [Go.Proofs.YtfelogbfijomiaaDoor.val, vS, lm, pw], Nat.le_refl _⟩
    obtain rfl : i = 0 := by simp at hi; omega
    simp [lm]
/-- the document's Uint64 -/
theorem ruintV {a : Option Addr} {n c : Nat} {m : Int} {S : Nat} (w : World) (h : Num w a n c m S) (hS : S ≤ 400000000) :
    Calls Tryd.prog 63 #[.slice a n c] w fun e w' => e = .returned (.tuple #[.int .u64 (uw m), .bool (uf m)]) ∧ Below w.heap.size w w' := by
  obtain ⟨xs, h1, h2, h3, h4, h5, h6⟩ := h
  refine (ruint64_any a n c xs w h1 h2 (by omega) h3 h4).mono ?_
  rintro e w' ⟨rfl, hb⟩
  refine ⟨?_, hb⟩
  have o := one_limb h4
  rw [h5] at o
  by_cases ht : tlen xs ≤ 1
  · obtain ⟨o1, o2⟩ := o.1 ht
    rw [show uval xs = uw m by unfold uval uw; rw [o1, if_pos o2], show ufit xs = uf m by unfold ufit uf; rw [decide_eq_true ht, decide_eq_true o2]]
  · have o2 := o.2 (by omega)
    rw [show uval xs = uw m by unfold uval uw; rw [if_neg (by omega), if_neg (by omega)], show ufit xs = uf m by unfold ufit uf; rw [decide_eq_false ht, decide_eq_false (by omega)]]
set_option maxHeartbeats 1000000 in
/-- the document's Of -/
theorem rofI (v : Int) (w : World) (h0 : -9223372036854775808 ≤ v) (h1 : v < 9223372036854775808) :
    Calls Tryd.prog 21 #[.int .i64 v] w fun e w' => ∃ f c n d, e = .returned (.agg #[.bool f, .slice c n d]) ∧ GI w' w.heap.size (.agg #[.bool f, .slice c n d]) (v) (1) ∧ Below w.heap.size w w' := by
  obtain ⟨R0, hb0, hsz⟩ := box1 w (.bool false) (.slice none 0 0) 25
  by_cases hv : v < 0
  · go_enter Tryd.func21, Tryd.ntmps21
    have K : Num _ _ _ _ _ _ := (reads_one (w := w.alloc (.cells #[.bool false, .slice none 0 0] 25)) (z := -(v + 1) + 1)).2 ⟨by omega, by omega⟩
    have hx : Below (w.alloc (.cells #[.bool false, .slice none 0 0] 25)).heap.size (w.alloc (.cells #[.bool false, .slice none 0 0] 25)) ((w.alloc (.cells #[.bool false, .slice none 0 0] 25)).alloc (.cells #[.int .u64 (-(v + 1) + 1)] 64)) := (Below.refl _ _).alloc (Nat.le_refl _) _
    rw [hsz] at K
    replace R0 := R0.below hx
    go_wp2_with fail
    generalize w.alloc (.cells #[.bool false, .slice none 0 0] 25) = W0 at *
    generalize W0.alloc (.cells #[.int .u64 (-(v + 1) + 1)] 64) = W1 at *
    refine (rfromI true _ K (by omega)).mono ?_
    rintro e w2 ⟨f1, c1, n1, d1, rfl, G, hb2⟩
    have R1 := R0.below hb2
    have hw2 := bel_tr (bel_tr hb0 hx) hb2
    have hs1 := hx.size
    have GF : GI w2 W1.heap.size (.agg #[.bool f1, .slice c1 n1 d1]) v 1 := G.val (by simp [ws]; try omega)
    obtain ⟨r0, r1, r2, r3⟩ := id R1
    obtain ⟨V, O⟩ := R1.set (.bool f1) (.slice c1 n1 d1)
    clear R0 hb0 hb2 hx K G
    go_wp2
    refine bodyPost_ret (v := .agg #[.bool f1, .slice c1 n1 d1]) (by simp [results, Tryd.results21, go_sem, V.c0, V.c1]) rfl ⟨_, _, _, _, rfl, ((GF.off O (by omega)).mono (by omega)), hw2.trans (O.below (by omega))⟩
  · go_enter Tryd.func21, Tryd.ntmps21
    have K : Num _ _ _ _ _ _ := (reads_one (w := w.alloc (.cells #[.bool false, .slice none 0 0] 25)) (z := v)).2 ⟨by omega, by omega⟩
    have hx : Below (w.alloc (.cells #[.bool false, .slice none 0 0] 25)).heap.size (w.alloc (.cells #[.bool false, .slice none 0 0] 25)) ((w.alloc (.cells #[.bool false, .slice none 0 0] 25)).alloc (.cells #[.int .u64 (v)] 64)) := (Below.refl _ _).alloc (Nat.le_refl _) _
    rw [hsz] at K
    replace R0 := R0.below hx
    go_wp2_with fail
    generalize w.alloc (.cells #[.bool false, .slice none 0 0] 25) = W0 at *
    generalize W0.alloc (.cells #[.int .u64 (v)] 64) = W1 at *
    refine (rfromI false _ K (by omega)).mono ?_
    rintro e w2 ⟨f1, c1, n1, d1, rfl, G, hb2⟩
    have R1 := R0.below hb2
    have hw2 := bel_tr (bel_tr hb0 hx) hb2
    have hs1 := hx.size
    have GF : GI w2 W1.heap.size (.agg #[.bool f1, .slice c1 n1 d1]) v 1 := G.val (by simp [ws]; try omega)
    obtain ⟨r0, r1, r2, r3⟩ := id R1
    obtain ⟨V, O⟩ := R1.set (.bool f1) (.slice c1 n1 d1)
    clear R0 hb0 hb2 hx K G
    go_wp2
    refine bodyPost_ret (v := .agg #[.bool f1, .slice c1 n1 d1]) (by simp [results, Tryd.results21, go_sem, V.c0, V.c1]) rfl ⟨_, _, _, _, rfl, ((GF.off O (by omega)).mono (by omega)), hw2.trans (O.below (by omega))⟩

set_option maxHeartbeats 1000000 in
/-- the document's Int64 -/
theorem rint64I {a : Option Addr} {na ca : Nat} {m : Int} {S : Nat} (p : Bool) (w : World) (ha : Num w a na ca m S) (hS : S ≤ 20000000) :
    Calls Tryd.prog 36 #[.agg #[.bool p, .slice a na ca]] w fun e w' => e = .returned (.tuple #[.int .i64 (wordI (ws p m)), .bool (fitI (ws p m))]) ∧ Below w.heap.size w w' := by
  obtain ⟨P0, hb0, hsz⟩ := box1 w (.bool p) (.slice a na ca) 25
  replace ha := ha.below hb0
  go_enter Tryd.func36, Tryd.ntmps36
  go_wp2_with fail
  generalize w.alloc (.cells #[.bool p, .slice a na ca] 25) = W0 at *
  obtain ⟨p00, p01, p02, p03⟩ := id P0
  refine (rnormI p _ ha (by omega)).mono ?_
  rintro e w1 ⟨f1, c1, n1, d1, rfl, G, hb1⟩
  obtain ⟨e1, G1⟩ := G.parts
  obtain ⟨X, hX⟩ : ∃ X, ws p m = X := ⟨_, rfl⟩
  rw [hX] at e1 G1
  have HE : Hid (wordI (ws p m) = wordI X ∧ fitI (ws p m) = fitI X) := by rw [hX]; exact ⟨rfl, rfl⟩
  replace hb0 := bel_tr hb0 hb1
  have HE1 : Hid (f1 = decide (X < 0)) := e1
  clear P0 p00 p01 p02 p03 ha hb1 G hX e1
  obtain ⟨V, hv, hs⟩ := box1 w1 (.bool f1) (.slice c1 n1 d1) 25
  replace hb0 := bel_tr hb0 hv
  replace G1 := G1.below hv
  obtain ⟨v0, v1, v2, v3⟩ := id V
  go_wp2_with fail
  generalize w1.alloc (.cells #[.bool f1, .slice c1 n1 d1] 25) = w3 at *
  refine (ruintV _ G1.num (by omega)).mono ?_
  rintro e w2 ⟨rfl, hb2⟩
  have hw2 := bel_tr hb0 hb2
  replace V := V.below hb2
  clear v0 v1 v2 v3 G1 hb0 hb2 hv hs
  obtain ⟨v0, v1, v2, v3⟩ := id V
  by_cases h64 : (X.natAbs : Int) < 18446744073709551616
  · rw [show uw (X.natAbs : Int) = X.natAbs from if_pos h64, show uf (X.natAbs : Int) = true from decide_eq_true h64]
    by_cases hn : X < 0
    · obtain rfl : f1 = true := by rw [HE1.out]; exact decide_eq_true hn
      obtain ⟨z, hz⟩ : ∃ z : Int, (X.natAbs : Int) = z := ⟨_, rfl⟩
      rw [hz] at h64 ⊢
      by_cases hf : z ≤ 9223372036854775808
      · have HX : Hid (wordI (ws p m) = -z ∧ fitI (ws p m) = true) := by
          show _ ∧ _
          rw [HE.out.1, HE.out.2]
          refine ⟨?_, ?_⟩
          · unfold wordI; rw [if_pos (by omega)]; omega
          · unfold fitI; exact decide_eq_true (by omega)
        have hz0 : 1 ≤ z := by omega
        have hz1 : -(z - 1) - 1 = -z := by omega
        clear HE1 hn hz V
        go_wp2
        go_ret2
        exact ⟨by rw [HX.out.1, HX.out.2, ← hz1]; rfl, hw2⟩
      · have HX : Hid (wordI (ws p m) = 0 ∧ fitI (ws p m) = false) := by
          show _ ∧ _
          rw [HE.out.1, HE.out.2]
          refine ⟨?_, ?_⟩
          · unfold wordI; rw [if_neg (by omega)]
          · unfold fitI; exact decide_eq_false (by omega)
        clear HE1 hn hz V
        go_wp2
        go_ret2
        exact ⟨by rw [HX.out.1, HX.out.2]; rfl, hw2⟩
    · obtain rfl : f1 = false := by rw [HE1.out]; exact decide_eq_false hn
      obtain ⟨z, hz⟩ : ∃ z : Int, (X.natAbs : Int) = z := ⟨_, rfl⟩
      rw [hz] at h64 ⊢
      by_cases hf : z ≤ 9223372036854775807
      · have HX : Hid (wordI (ws p m) = z ∧ fitI (ws p m) = true) := by
          show _ ∧ _
          rw [HE.out.1, HE.out.2]
          refine ⟨?_, ?_⟩
          · unfold wordI; rw [if_pos (by omega)]; omega
          · unfold fitI; exact decide_eq_true (by omega)
        have hz0 : 0 ≤ z := by omega
        clear HE1 hn hz V
        go_wp2
        go_ret2
        exact ⟨by rw [HX.out.1, HX.out.2]; rfl, hw2⟩
      · have HX : Hid (wordI (ws p m) = 0 ∧ fitI (ws p m) = false) := by
          show _ ∧ _
          rw [HE.out.1, HE.out.2]
          refine ⟨?_, ?_⟩
          · unfold wordI; rw [if_neg (by omega)]
          · unfold fitI; exact decide_eq_false (by omega)
        clear HE1 hn hz V
        go_wp2
        go_ret2
        exact ⟨by rw [HX.out.1, HX.out.2]; rfl, hw2⟩
  · rw [show uw (X.natAbs : Int) = 0 from if_neg h64, show uf (X.natAbs : Int) = false from decide_eq_false h64]
    have HX : Hid (wordI (ws p m) = 0 ∧ fitI (ws p m) = false) := by
      show _ ∧ _
      rw [HE.out.1, HE.out.2]
      refine ⟨?_, ?_⟩
      · unfold wordI; rw [if_neg (by omega)]
      · unfold fitI; exact decide_eq_false (by omega)
    clear HE1 h64 V
    go_wp2
    go_ret2
    exact ⟨by rw [HX.out.1, HX.out.2]; rfl, hw2⟩
theorem rint64T {a : Option Addr} {p : Bool} {na ca : Nat} {x : Int} {S : Nat} (w : World) (ha : TI w p a na ca x S) (hS : S ≤ 20000000) :
    Calls Tryd.prog 36 #[.agg #[.bool p, .slice a na ca]] w fun e w' => e = .returned (.tuple #[.int .i64 (wordI x), .bool (fitI x)]) ∧ Below w.heap.size w w' := by
  obtain ⟨m, h1, rfl⟩ := ha
  exact rint64I p w h1 (by omega)
theorem int64T {a : Option Addr} {p : Bool} {na ca : Nat} {x : Int} {S : Nat} (w : World) (ha : TI w p a na ca x S) (hS : S ≤ 20000000) :
    Calls Tryd.prog 35 #[.agg #[.bool p, .slice a na ca]] w fun e w' => e = .returned (.tuple #[.int .i64 (wordI x), .bool (fitI x)]) ∧ Below w.heap.size w w' := by
  obtain ⟨m, h1, rfl⟩ := ha
  exact int64I p w h1 (by omega)
end Go.Proofs.YtfelogbfijomiaaDoor

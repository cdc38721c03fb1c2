import Derived.Test.YtjlmboakeigmpaaDoorNrR
import Derived.Test.YtjlmboakeigmpaaDoorNrJ
namespace Go.Proofs.YtjlmboakeigmpaaDoor
open Go.RowKit

theorem leF {x y : Int} (h1 : -9218868437227405312 ≤ x ∧ x ≤ 9218868437227405312) (h2 : -9218868437227405312 ≤ y ∧ y ≤ 9218868437227405312) (h : x ≤ y) : (FloatKind.f64.format.order (fb x) (fb y) == some .lt || FloatKind.f64.format.order (fb x) (fb y) == some .eq) = true := by
  have e : FloatKind.f64.format.order (fb x) (fb y) = some (compare x y) := order_fb h1.1 h1.2 h2.1 h2.2
  rw [e]
  rcases (by omega : x < y ∨ x = y) with h | h
  · rw [Int.compare_eq_lt.2 h]; rfl
  · rw [Int.compare_eq_eq.2 h]; rfl
/-- What NearRises asks of the two in their order. -/
def Rs (A B : Rat) (f1 f2 e1 e2 u1 u2 : Nat) : Prop := ∃ y z, Pz A y ∧ Pz B z ∧ f1 = fb (flz y) ∧ f2 = fb (flz z) ∧ e1 = fb (dnz y) ∧ e2 = fb (dnz z) ∧ u1 = fb (upz y) ∧ u2 = fb (upz z) ∧ y ≤ z
theorem csA {r s : Rat} (h : ¬ 0 < cs r s) : r.num * s.den ≤ s.num * r.den := by
  unfold cs at h
  rcases Int.lt_or_le (s.num * r.den) (r.num * s.den) with h1 | h1
  · exact absurd (by rw [Int.sign_eq_one_of_pos (by omega)]; decide) h
  · exact h1
theorem csB {r s : Rat} (h : 0 < cs r s) : s.num * r.den ≤ r.num * s.den := by
  unfold cs at h
  rcases Int.lt_or_le (r.num * s.den) (s.num * r.den) with h1 | h1
  · rw [Int.sign_eq_neg_one_of_neg (by omega)] at h; exact absurd h (by decide)
  · exact h1

theorem TR.drewN {w : World} {p : Bool} {a : Option Addr} {na ca : Nat} {d : Option Addr} {nd cd : Nat} {r : Rat} {S : Nat} (h : TR w p a na ca d nd cd r S) (k : Nat) : TR (w.drewN k) p a na ca d nd cd r S := h.below (belN (Below.refl _ w) k)
set_option maxRecDepth 100000 in
set_option maxHeartbeats 40000000 in
theorem rises_walk {p1 : Bool} {a1 : Option Addr} {na1 ca1 : Nat} {d1 : Option Addr} {nd1 cd1 : Nat} {p2 : Bool} {a2 : Option Addr} {na2 ca2 : Nat} {d2 : Option Addr} {nd2 cd2 : Nat} {r s : Rat} {S : Nat} (w : World) (hA : TR w p1 a1 na1 ca1 d1 nd1 cd1 r S) (hB : TR w p2 a2 na2 ca2 d2 nd2 cd2 s S) (hS : S ≤ 2000000) (hS1 : 1 ≤ S) (hT : TB w) :
    Calls Tryd.prog 5 #[.agg #[.bool p1, .slice a1 na1 ca1, .slice d1 nd1 cd1], .agg #[.bool p2, .slice a2 na2 ca2, .slice d2 nd2 cd2]] w fun e w' => e = .returned (.bool true) ∧ Below w.heap.size w w' := by
  obtain ⟨VA, VB, hb0, hsz⟩ := box_rr w (.bool p1) (.slice a1 na1 ca1) (.slice d1 nd1 cd1) (.bool p2) (.slice a2 na2 ca2) (.slice d2 nd2 cd2) 27
  replace hT := hT.below hb0
  go_enter Tryd.func5, Tryd.ntmps5
  go_wp2_with fail
  generalize (w.alloc (.cells #[.bool p1, .slice a1 na1 ca1, .slice d1 nd1 cd1] 27)).alloc (.cells #[.bool p2, .slice a2 na2 ca2, .slice d2 nd2 cd2] 27) = W0 at *
  refine (awake4 _ hT).mono ?_
  rintro e w1 ⟨rfl, hx⟩
  replace VA := VA.below hx
  replace VB := VB.below hx
  replace hb0 := bel_tr hb0 hx
  clear hx hT hsz
  obtain ⟨va0, va1, va2, va3, va4, va5⟩ := id VA
  obtain ⟨vb0, vb1, vb2, vb3, vb4, vb5⟩ := id VB
  obtain ⟨t, ht⟩ : ∃ t, t = cs r s := ⟨_, rfl⟩
  go_wp2_with fail
  refine (cmpB t _ (hA.below hb0) (hB.below hb0) (by omega) hS1 hS1 ht).mono ?_
  rintro e w2 ⟨rfl, hx⟩
  replace VA := VA.below hx
  replace VB := VB.below hx
  replace hb0 := bel_tr hb0 hx
  clear hx va0 va1 va2 va3 va4 va5 vb0 vb1 vb2 vb3 vb4 vb5
  by_cases hc : 0 < t
  · obtain ⟨y, PY⟩ := Pz.ex s
    obtain ⟨z, PZ⟩ := Pz.ex r
    have hyz : y ≤ z := PY.mono PZ (csB (ht ▸ hc))
    obtain ⟨va0, va1, va2, va3, va4, va5⟩ := id VA
    obtain ⟨vb0, vb1, vb2, vb3, vb4, vb5⟩ := id VB
    obtain ⟨VA', O1⟩ := VA.set (.bool p2) (.slice a2 na2 ca2) (.slice d2 nd2 cd2)
    have VB1 := VB.off O1 (by omega)
    obtain ⟨VB', O2⟩ := VB1.set (.bool p1) (.slice a1 na1 ca1) (.slice d1 nd1 cd1)
    replace VA' := VA'.off O2 (by omega)
    have hb9 := (hb0.trans (O1.below (Nat.le_refl _))).trans (O2.below (by omega))
    obtain ⟨xb0, xb1, xb2, xb3, xb4, xb5⟩ := id VB1
    go_wp2_with fail
    replace hb0 := hb9
    replace VA := VA'
    replace VB := VB'
    clear hb9 VA' VB' VB1 O1 O2 va0 va1 va2 va3 va4 va5 vb0 vb1 vb2 vb3 vb4 vb5 xb0 xb1 xb2 xb3 xb4 xb5
    obtain ⟨f1, HF1⟩ : ∃ f1, Hid (fb (flz y) = f1) := ⟨_, rfl⟩
    obtain ⟨f2, HF2⟩ : ∃ f2, Hid (fb (flz z) = f2) := ⟨_, rfl⟩
    obtain ⟨e1, HE1⟩ : ∃ e1, Hid (fb (dnz y) = e1) := ⟨_, rfl⟩
    obtain ⟨e2, HE2⟩ : ∃ e2, Hid (fb (dnz z) = e2) := ⟨_, rfl⟩
    obtain ⟨g1, HG1⟩ : ∃ g1, Hid (fb (upz y) = g1) := ⟨_, rfl⟩
    obtain ⟨g2, HG2⟩ : ∃ g2, Hid (fb (upz z) = g2) := ⟨_, rfl⟩
    have HL1 : Hid ((FloatKind.f64.format.order f1 f2 == some .lt || FloatKind.f64.format.order f1 f2 == some .eq) = true) := by show _ = _; rw [← HF1.out, ← HF2.out]; exact leF PY.fl PZ.fl (flz_mono hyz)
    have HL2 : Hid ((FloatKind.f64.format.order e1 e2 == some .lt || FloatKind.f64.format.order e1 e2 == some .eq) = true) := by show _ = _; rw [← HE1.out, ← HE2.out]; exact leF PY.dn PZ.dn (dnz_mono hyz)
    have HL3 : Hid ((FloatKind.f64.format.order g1 g2 == some .lt || FloatKind.f64.format.order g1 g2 == some .eq) = true) := by show _ = _; rw [← HG1.out, ← HG2.out]; exact leF PY.up PZ.up (upz_mono hyz)
    have HA := hA.below hb0
    have HB := hB.below hb0
    obtain ⟨va0, va1, va2, va3, va4, va5⟩ := id VA
    obtain ⟨vb0, vb1, vb2, vb3, vb4, vb5⟩ := id VB
    go_wp2_with fail
    refine (floatQ y _ HB hS hS1 PY HF1.out rfl).mono ?_
    rintro e v1 ⟨rfl, hx⟩
    replace HA := HA.below hx
    replace HB := HB.below hx
    replace VA := VA.below hx
    replace VB := VB.below hx
    replace hb0 := bel_tr hb0 hx
    clear hx va0 va1 va2 va3 va4 va5 vb0 vb1 vb2 vb3 vb4 vb5
    obtain ⟨va0, va1, va2, va3, va4, va5⟩ := id VA
    obtain ⟨vb0, vb1, vb2, vb3, vb4, vb5⟩ := id VB
    generalize sdz y = sy
    go_wp2_with fail
    refine (floatQ z _ HA hS hS1 PZ HF2.out rfl).mono ?_
    rintro e v2 ⟨rfl, hx⟩
    replace HA := HA.below hx
    replace HB := HB.below hx
    replace VA := VA.below hx
    replace VB := VB.below hx
    replace hb0 := bel_tr hb0 hx
    clear hx va0 va1 va2 va3 va4 va5 vb0 vb1 vb2 vb3 vb4 vb5
    obtain ⟨va0, va1, va2, -, -, -⟩ := id VA
    obtain ⟨vb0, vb1, vb2, -, -, -⟩ := id VB
    generalize sdz z = sz
    go_wp2_with fail
    have L1 := HL1.out
    have L2 := HL2.out
    have L3 := HL3.out
    go_region_held3 (fun w' => w'.cell? ⟨w.heap.size, 0, none⟩ = some (.bool p2) ∧ w'.cell? ⟨w.heap.size, 1, none⟩ = some (.slice a2 na2 ca2) ∧ w'.cell? ⟨w.heap.size, 2, none⟩ = some (.slice d2 nd2 cd2) ∧ w'.cell? ⟨w.heap.size + 1, 0, none⟩ = some (.bool p1) ∧ w'.cell? ⟨w.heap.size + 1, 1, none⟩ = some (.slice a1 na1 ca1) ∧ w'.cell? ⟨w.heap.size + 1, 2, none⟩ = some (.slice d1 nd1 cd1))
      (first | (go_keep; done) | (refine ⟨?_, ?_, ?_, ?_, ?_, ?_⟩ <;> first | exact kept_c hb4 (by go_keep) | exact kept_c hb3 (by go_keep) | exact kept_c hb2 (by go_keep) | exact kept_c hb1 (by go_keep)))
      ((first
        | (go_at_call 10; go_fit (downQ y _ (HB.drewN _) hS hS1 PY HE1.out); rintro e u1 ⟨rfl, hb1⟩; have hd1 : Below v2.heap.size v2 u1 := (by first | exact hb1 | exact bel_tr (belN (Below.refl _ v2) 1) hb1); have hc1 := hd1)
        | (go_at_call 10; go_fit (downQ z _ (HA.below hc1) hS hS1 PZ HE2.out); rintro e u2 ⟨rfl, hb2⟩; have hd2 : Below u1.heap.size u1 u2 := (by first | exact hb2 | exact bel_tr (belN (Below.refl _ u1) 1) hb2); have hc2 := bel_tr hc1 hd2)
        | (go_at_call 11; go_fit (upQ y _ (HB.below hc2) hS hS1 PY HG1.out); rintro e u3 ⟨rfl, hb3⟩; have hd3 : Below u2.heap.size u2 u3 := (by first | exact hb3 | exact bel_tr (belN (Below.refl _ u2) 1) hb3); have hc3 := bel_tr hc2 hd3)
        | (go_at_call 11; go_fit (upQ z _ (HA.below hc3) hS hS1 PZ HG2.out); rintro e u4 ⟨rfl, hb4⟩; have hd4 : Below u3.heap.size u3 u4 := (by first | exact hb4 | exact bel_tr (belN (Below.refl _ u3) 1) hb4); have hc4 := bel_tr hc3 hd4)))
    replace hb0 := bel_tr hb0 hc4
    clear hb1 hb2 hb3 hb4 hc1 hc2 hc3 hc4 hd1 hd2 hd3 hd4 HA HB VA VB va0 va1 va2 vb0 vb1 vb2
    go_wp2
    go_ret
    exact ⟨by simp, hb0⟩
  · obtain ⟨y, PY⟩ := Pz.ex r
    obtain ⟨z, PZ⟩ := Pz.ex s
    have hyz : y ≤ z := PY.mono PZ (csA (ht ▸ hc))
    obtain ⟨f1, HF1⟩ : ∃ f1, Hid (fb (flz y) = f1) := ⟨_, rfl⟩
    obtain ⟨f2, HF2⟩ : ∃ f2, Hid (fb (flz z) = f2) := ⟨_, rfl⟩
    obtain ⟨e1, HE1⟩ : ∃ e1, Hid (fb (dnz y) = e1) := ⟨_, rfl⟩
    obtain ⟨e2, HE2⟩ : ∃ e2, Hid (fb (dnz z) = e2) := ⟨_, rfl⟩
    obtain ⟨g1, HG1⟩ : ∃ g1, Hid (fb (upz y) = g1) := ⟨_, rfl⟩
    obtain ⟨g2, HG2⟩ : ∃ g2, Hid (fb (upz z) = g2) := ⟨_, rfl⟩
    have HL1 : Hid ((FloatKind.f64.format.order f1 f2 == some .lt || FloatKind.f64.format.order f1 f2 == some .eq) = true) := by show _ = _; rw [← HF1.out, ← HF2.out]; exact leF PY.fl PZ.fl (flz_mono hyz)
    have HL2 : Hid ((FloatKind.f64.format.order e1 e2 == some .lt || FloatKind.f64.format.order e1 e2 == some .eq) = true) := by show _ = _; rw [← HE1.out, ← HE2.out]; exact leF PY.dn PZ.dn (dnz_mono hyz)
    have HL3 : Hid ((FloatKind.f64.format.order g1 g2 == some .lt || FloatKind.f64.format.order g1 g2 == some .eq) = true) := by show _ = _; rw [← HG1.out, ← HG2.out]; exact leF PY.up PZ.up (upz_mono hyz)
    have HA := hA.below hb0
    have HB := hB.below hb0
    obtain ⟨va0, va1, va2, va3, va4, va5⟩ := id VA
    obtain ⟨vb0, vb1, vb2, vb3, vb4, vb5⟩ := id VB
    go_wp2_with fail
    refine (floatQ y _ HA hS hS1 PY HF1.out rfl).mono ?_
    rintro e v1 ⟨rfl, hx⟩
    replace HA := HA.below hx
    replace HB := HB.below hx
    replace VA := VA.below hx
    replace VB := VB.below hx
    replace hb0 := bel_tr hb0 hx
    clear hx va0 va1 va2 va3 va4 va5 vb0 vb1 vb2 vb3 vb4 vb5
    obtain ⟨va0, va1, va2, va3, va4, va5⟩ := id VA
    obtain ⟨vb0, vb1, vb2, vb3, vb4, vb5⟩ := id VB
    generalize sdz y = sy
    go_wp2_with fail
    refine (floatQ z _ HB hS hS1 PZ HF2.out rfl).mono ?_
    rintro e v2 ⟨rfl, hx⟩
    replace HA := HA.below hx
    replace HB := HB.below hx
    replace VA := VA.below hx
    replace VB := VB.below hx
    replace hb0 := bel_tr hb0 hx
    clear hx va0 va1 va2 va3 va4 va5 vb0 vb1 vb2 vb3 vb4 vb5
    obtain ⟨va0, va1, va2, -, -, -⟩ := id VA
    obtain ⟨vb0, vb1, vb2, -, -, -⟩ := id VB
    generalize sdz z = sz
    go_wp2_with fail
    have L1 := HL1.out
    have L2 := HL2.out
    have L3 := HL3.out
    go_region_held3 (fun w' => w'.cell? ⟨w.heap.size, 0, none⟩ = some (.bool p1) ∧ w'.cell? ⟨w.heap.size, 1, none⟩ = some (.slice a1 na1 ca1) ∧ w'.cell? ⟨w.heap.size, 2, none⟩ = some (.slice d1 nd1 cd1) ∧ w'.cell? ⟨w.heap.size + 1, 0, none⟩ = some (.bool p2) ∧ w'.cell? ⟨w.heap.size + 1, 1, none⟩ = some (.slice a2 na2 ca2) ∧ w'.cell? ⟨w.heap.size + 1, 2, none⟩ = some (.slice d2 nd2 cd2))
      (first | (go_keep; done) | (refine ⟨?_, ?_, ?_, ?_, ?_, ?_⟩ <;> first | exact kept_c hb4 (by go_keep) | exact kept_c hb3 (by go_keep) | exact kept_c hb2 (by go_keep) | exact kept_c hb1 (by go_keep)))
      ((first
        | (go_at_call 10; go_fit (downQ y _ (HA.drewN _) hS hS1 PY HE1.out); rintro e u1 ⟨rfl, hb1⟩; have hd1 : Below v2.heap.size v2 u1 := (by first | exact hb1 | exact bel_tr (belN (Below.refl _ v2) 1) hb1); have hc1 := hd1)
        | (go_at_call 10; go_fit (downQ z _ (HB.below hc1) hS hS1 PZ HE2.out); rintro e u2 ⟨rfl, hb2⟩; have hd2 : Below u1.heap.size u1 u2 := (by first | exact hb2 | exact bel_tr (belN (Below.refl _ u1) 1) hb2); have hc2 := bel_tr hc1 hd2)
        | (go_at_call 11; go_fit (upQ y _ (HA.below hc2) hS hS1 PY HG1.out); rintro e u3 ⟨rfl, hb3⟩; have hd3 : Below u2.heap.size u2 u3 := (by first | exact hb3 | exact bel_tr (belN (Below.refl _ u2) 1) hb3); have hc3 := bel_tr hc2 hd3)
        | (go_at_call 11; go_fit (upQ z _ (HB.below hc3) hS hS1 PZ HG2.out); rintro e u4 ⟨rfl, hb4⟩; have hd4 : Below u3.heap.size u3 u4 := (by first | exact hb4 | exact bel_tr (belN (Below.refl _ u3) 1) hb4); have hc4 := bel_tr hc3 hd4)))
    replace hb0 := bel_tr hb0 hc4
    clear hb1 hb2 hb3 hb4 hc1 hc2 hc3 hc4 hd1 hd2 hd3 hd4 HA HB VA VB va0 va1 va2 vb0 vb1 vb2
    go_wp2
    go_ret
    exact ⟨by simp, hb0⟩
end Go.Proofs.YtjlmboakeigmpaaDoor

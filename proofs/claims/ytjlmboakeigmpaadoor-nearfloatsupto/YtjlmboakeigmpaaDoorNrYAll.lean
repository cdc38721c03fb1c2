import Derived.Test.YtjlmboakeigmpaaDoorNrTAll
import Derived.Test.YtjlmboakeigmpaaDoorNrJ
namespace Go.Proofs.YtjlmboakeigmpaaDoor
open Go.RowKit
attribute [local go_sem ↓] Go.wp_at_zero Go.wp_at_succ

theorem LB.num4 {w : World} {b : LB} {xs : List Int} (h : b.is w xs) (hn : b.n = xs.length) (hx : AllW xs) {S : Nat} (hS : xs.length ≤ S) : Num w (some ⟨b.gf, 0, none⟩) b.n b.cf (val xs) S := by
  have o := LB.own h hn (Nat.le_refl _)
  obtain ⟨r1, r2, r3⟩ := o.reads
  exact ⟨xs, r1, r2, r3, hx, rfl, by omega⟩
theorem Lnt.off4 {w w' : World} {r gf cf gw cw n g : Nat} {fs ws : List Int} (h : Lnt w r gf cf gw cw n fs ws) (o : Off g w w') (hg : g < r) : Lnt w' r gf cf gw cw n fs ws :=
  have h1 := h.lf
  have h2 := h.lw
  { h with
    c0 := by rw [World.cell?_of_block (w := w) (o.block r (by omega))]; exact h.c0
    c1 := by rw [World.cell?_of_block (w := w) (o.block r (by omega))]; exact h.c1
    c2 := by rw [World.cell?_of_block (w := w) (o.block r (by omega))]; exact h.c2
    rf := h.rf.of_block (o.block gf (by omega))
    rw := h.rw.of_block (o.block gw (by omega))
    lr := by have := h.lr; have := o.size; omega }
/-- A fraction that is lent. -/
structure Ln4 (w : World) (p : Bool) (b b' : LB) (xs ys : List Int) : Prop where
  l : b.is w xs
  n : b.n = xs.length
  l' : b'.is w ys
  n' : b'.n = ys.length
theorem Ln4.below {w w' : World} {p : Bool} {b b' : LB} {xs ys : List Int} (h : Ln4 w p b b' xs ys) (hb : Below w.heap.size w w') : Ln4 w' p b b' xs ys := ⟨h.l.below hb, h.n, h.l'.below hb, h.n'⟩
theorem Ln4.tr {w : World} {p : Bool} {b b' : LB} {xs ys : List Int} (h : Ln4 w p b b' xs ys) {S : Nat} {r : Rat} (h1 : AllW xs) (h2 : AllW ys) (h3 : xs.length ≤ S) (h4 : ys.length ≤ S) (hr : Rat.divInt (ws p (val xs)) (val ys) = r) : TR w p (some ⟨b.gf, 0, none⟩) b.n b.cf (some ⟨b'.gf, 0, none⟩) b'.n b'.cf r S :=
  ⟨_, _, ⟨_, LB.num4 h.l h.n h1 h3, rfl⟩, LB.num4 h.l' h.n' h2 h4, hr⟩
set_option maxRecDepth 100000 in
set_option maxHeartbeats 2000000 in
/-- law4.lend -/
theorem lend4 {p : Bool} {a d : Option Addr} {na ca nd cd : Nat} {xs ys : List Int} (w : World) (hn : na = xs.length) (hl : na ≤ ca) (hm : na ≤ 2000000) (hr : Reads w a xs) (hn' : nd = ys.length) (hl' : nd ≤ cd) (hm' : nd ≤ 2000000) (hr' : Reads w d ys) :
    Calls Tryd.prog 7 #[.agg #[.bool p, .slice a na ca, .slice d nd cd]] w fun e w' => ∃ b b', e = .returned (.agg #[.pointer (some ⟨b.r, 0, none⟩), .pointer (some ⟨b'.r, 0, none⟩), .bool p]) ∧ Ln4 w' p b b' xs ys ∧ Below w.heap.size w w' := by
  have hb0 := bel_tr (bel_d0 w (.cells #[.bool p, .slice a na ca, .slice d nd cd] 27)) (bel_d0 _ (.cells #[.pointer none, .pointer none, .bool false] 31))
  have P0 := (var3_new w (.bool p) (.slice a na ca) (.slice d nd cd) 27).below (bel_d0 _ (.cells #[.pointer none, .pointer none, .bool false] 31))
  have R0 := var3_new (w.alloc (.cells #[.bool p, .slice a na ca, .slice d nd cd] 27)) (.pointer none) (.pointer none) (.bool false) 31
  rw [World.size_alloc] at R0
  have Hn : Hid (na = xs.length) := hn
  have Hn' : Hid (nd = ys.length) := hn'
  replace hr := hr.below hb0
  replace hr' := hr'.below hb0
  have hsz : ((w.alloc (.cells #[.bool p, .slice a na ca, .slice d nd cd] 27)).alloc (.cells #[.pointer none, .pointer none, .bool false] 31)).heap.size = w.heap.size + 2 := by simp
  clear hn hn'
  go_enter Tryd.func7, Tryd.ntmps7
  go_wp2_with fail
  generalize (w.alloc (.cells #[.bool p, .slice a na ca, .slice d nd cd] 27)).alloc (.cells #[.pointer none, .pointer none, .bool false] 31) = W0 at *
  obtain ⟨p00, p01, p02, p03, p04, p05⟩ := id P0
  go_region_held3 (fun w' => w'.cell? ⟨w.heap.size, 0, none⟩ = some (.bool p) ∧ w'.cell? ⟨w.heap.size, 1, none⟩ = some (.slice a na ca) ∧ w'.cell? ⟨w.heap.size, 2, none⟩ = some (.slice d nd cd))
    (first | (go_keep; done) | (refine ⟨?_, ?_, ?_⟩ <;> first | exact kept_c hb2 (by go_keep) | exact kept_c hb1 (by go_keep) | exact kept_c (by assumption) (by assumption)))
    ((first
      | (go_at_call 23; go_fit (lend_any a na ca xs _ Hn.out hl hm (hr.below (belN (Below.refl _ _) _))); rintro e w1 ⟨gf, cf, gw, cw, rfl, L1, hb1⟩; have hc1 : Below W0.heap.size W0 w1 := (by first | exact hb1 | exact bel_tr (belN (Below.refl _ W0) 1) hb1))
      | (go_at_call 23; go_fit (lend_any d nd cd ys _ Hn'.out hl' hm' (hr'.below hc1)); rintro e w2 ⟨gf', cf', gw', cw', rfl, L2, hb2⟩; have hd2 : Below w1.heap.size w1 w2 := (by first | exact hb2 | exact bel_tr (belN (Below.refl _ w1) 1) hb2); have hc2 := bel_tr hc1 hd2; have R2 := R0.below hc2; obtain ⟨y0, y1, y2, y3, y4, y5⟩ := id R2)))
  have hw0 : W0.drew.heap.size = w.heap.size + 2 := hsz
  rw [hw0] at L1
  have hs1 := hc1.size
  replace L1 := L1.below hd2
  obtain ⟨V, O⟩ := R2.set (.pointer (some ⟨w.heap.size + 2, 0, none⟩)) (.pointer (some ⟨w1.heap.size, 0, none⟩)) (.bool p)
  replace L1 := L1.off4 O (by omega)
  replace L2 := L2.off4 O (by omega)
  have hw := (bel_tr hb0 hc2).trans (O.below (by omega))
  have HL : Ln4 _ p ⟨w.heap.size + 2, gf, cf, gw, cw, na⟩ ⟨w1.heap.size, gf', cf', gw', cw', nd⟩ xs ys := ⟨L1, Hn.out, L2, Hn'.out⟩
  clear hr hr' hb1 hc1 hb2 hd2 hc2 R2 R0 P0 p00 p01 p02 p03 p04 p05 y0 y1 y2 y3 y4 y5 O hb0 L1 L2
  go_wp2
  refine bodyPost_ret (v := .agg #[.pointer (some ⟨w.heap.size + 2, 0, none⟩), .pointer (some ⟨w1.heap.size, 0, none⟩), .bool p]) (by simp [results, Tryd.results7, go_sem, V.c0, V.c1, V.c2]) rfl ⟨_, _, rfl, HL, hw⟩

set_option maxRecDepth 100000 in
set_option maxHeartbeats 2000000 in
/-- (loan).rat -/
theorem rat4 {p : Bool} {b b' : LB} {xs ys : List Int} (w : World) (h : Ln4 w p b b' xs ys) :
    Calls Tryd.prog 9 #[.agg #[.pointer (some ⟨b.r, 0, none⟩), .pointer (some ⟨b'.r, 0, none⟩), .bool p]] w fun e w' => e = .returned (.agg #[.bool p, .slice (some ⟨b.gf, 0, none⟩) b.n b.cf, .slice (some ⟨b'.gf, 0, none⟩) b'.n b'.cf]) ∧ Below w.heap.size w w' := by
  have hb0 := bel_tr (bel_d0 w (.cells #[.pointer (some ⟨b.r, 0, none⟩), .pointer (some ⟨b'.r, 0, none⟩), .bool p] 31)) (bel_d0 _ (.cells #[.bool false, .slice none 0 0, .slice none 0 0] 27))
  have P0 := (var3_new w (.pointer (some ⟨b.r, 0, none⟩)) (.pointer (some ⟨b'.r, 0, none⟩)) (.bool p) 31).below (bel_d0 _ (.cells #[.bool false, .slice none 0 0, .slice none 0 0] 27))
  have R0 := var3_new (w.alloc (.cells #[.pointer (some ⟨b.r, 0, none⟩), .pointer (some ⟨b'.r, 0, none⟩), .bool p] 31)) (.bool false) (.slice none 0 0) (.slice none 0 0) 27
  rw [World.size_alloc] at R0
  replace h := h.below hb0
  have hsz : ((w.alloc (.cells #[.pointer (some ⟨b.r, 0, none⟩), .pointer (some ⟨b'.r, 0, none⟩), .bool p] 31)).alloc (.cells #[.bool false, .slice none 0 0, .slice none 0 0] 27)).heap.size = w.heap.size + 2 := by simp
  go_enter Tryd.func9, Tryd.ntmps9
  go_wp2_with fail
  generalize (w.alloc (.cells #[.pointer (some ⟨b.r, 0, none⟩), .pointer (some ⟨b'.r, 0, none⟩), .bool p] 31)).alloc (.cells #[.bool false, .slice none 0 0, .slice none 0 0] 27) = W0 at *
  obtain ⟨p00, p01, p02, p03, p04, p05⟩ := id P0
  obtain ⟨L, hL⟩ : ∃ L, (lendL xs).length = L := ⟨_, rfl⟩
  obtain ⟨M, hM⟩ : ∃ M, (lendL ys).length = M := ⟨_, rfl⟩
  have k0 := h.l.c0
  have k1 := h.l.c2
  have k2 := h.l'.c0
  have k3 := h.l'.c2
  have hnc : b.n ≤ b.cf := by have := h.l.le; have := h.l.rf.le; omega
  have hnc' : b'.n ≤ b'.cf := by have := h.l'.le; have := h.l'.rf.le; omega
  rw [hL] at k0
  rw [hM] at k2
  clear hL hM h
  obtain ⟨y0, y1, y2, y3, y4, y5⟩ := id R0
  go_region_held3 (fun w' => w'.cell? ⟨w.heap.size, 0, none⟩ = some (.pointer (some ⟨b.r, 0, none⟩)) ∧ w'.cell? ⟨w.heap.size, 1, none⟩ = some (.pointer (some ⟨b'.r, 0, none⟩)) ∧ w'.cell? ⟨w.heap.size, 2, none⟩ = some (.bool p))
    (first | (go_keep; done) | (refine ⟨?_, ?_, ?_⟩ <;> first | exact set3_far (by go_keep) (by simp <;> omega) | exact kept_c (by assumption) (by assumption)))
    ((first
      | (go_at_call 27; go_fit (lnat_c b.r b.gf b.cf b.n L _ (by simp [*]) (by simp [*]) hnc); rintro e w1 ⟨rfl, m1, rfl⟩)
      | (go_at_call 27; go_fit (lnat_c b'.r b'.gf b'.cf b'.n M _ (by simp [*]) (by simp [*]) hnc'); rintro e w2 ⟨rfl, m2, rfl⟩)))
  have R1 := R0.below (belN (Below.refl _ _) (1 + m1 + m2))
  obtain ⟨V, O⟩ := R1.set (.bool p) (.slice (some ⟨b.gf, 0, none⟩) b.n b.cf) (.slice (some ⟨b'.gf, 0, none⟩) b'.n b'.cf)
  have hw := (belN hb0 (1 + m1 + m2)).trans (O.below (by omega))
  clear R0 R1 P0 k0 k1 k2 k3 p00 p01 p02 p03 p04 p05 y0 y1 y2 y3 y4 y5 hnc hnc' O hb0
  go_wp2
  refine bodyPost_ret (v := .agg #[.bool p, .slice (some ⟨b.gf, 0, none⟩) b.n b.cf, .slice (some ⟨b'.gf, 0, none⟩) b'.n b'.cf]) (by simp [results, Tryd.results9, go_sem, V.c0, V.c1, V.c2]) rfl ⟨rfl, hw⟩
set_option maxRecDepth 100000 in
set_option maxHeartbeats 2000000 in
/-- (loan).kept -/
theorem kept4 {p : Bool} {b b' : LB} {xs ys : List Int} (w : World) (h : Ln4 w p b b' xs ys) (hx : xs.length ≤ 2000000) (hy : ys.length ≤ 2000000) :
    Calls Tryd.prog 16 #[.agg #[.pointer (some ⟨b.r, 0, none⟩), .pointer (some ⟨b'.r, 0, none⟩), .bool p]] w fun e w' => e = .returned (.bool true) ∧ Below w.heap.size w w' := by
  have hb0 := bel_d0 w (.cells #[.pointer (some ⟨b.r, 0, none⟩), .pointer (some ⟨b'.r, 0, none⟩), .bool p] 31)
  have P0 := var3_new w (.pointer (some ⟨b.r, 0, none⟩)) (.pointer (some ⟨b'.r, 0, none⟩)) (.bool p) 31
  replace h := h.below hb0
  obtain ⟨p00, p01, p02, p03, p04, p05⟩ := id P0
  go_enter Tryd.func16, Tryd.ntmps16
  go_wp2_with fail
  generalize w.alloc (.cells #[.pointer (some ⟨b.r, 0, none⟩), .pointer (some ⟨b'.r, 0, none⟩), .bool p] 31) = W0 at *
  refine (keptG _ b xs h.l hx).mono ?_
  rintro e w1 ⟨rfl, hb⟩
  replace h := h.below hb
  replace P0 := P0.below hb
  replace hb0 := bel_tr hb0 hb
  clear hb p00 p01 p02 p03 p04 p05
  obtain ⟨p00, p01, p02, p03, p04, p05⟩ := id P0
  go_wp2_with fail
  refine (keptG _ b' ys h.l' hy).mono ?_
  rintro e w2 ⟨rfl, hb⟩
  replace hb0 := bel_tr hb0 hb
  clear hb p00 p01 p02 p03 p04 p05 h P0
  go_wp2
  go_ret
  exact ⟨by simp, hb0⟩
end Go.Proofs.YtjlmboakeigmpaaDoor

namespace Go.Proofs.YtjlmboakeigmpaaDoor
open Go.RowKit

set_option maxRecDepth 100000 in
set_option maxHeartbeats 4000000 in
theorem floats_walk {p : Bool} {a d : Option Addr} {na ca nd cd : Nat} {r : Rat} {S : Nat} (w : World) (hA : TR w p a na ca d nd cd r S) (hS : S ≤ 2000000) (hS1 : 1 ≤ S) (hT : TB w) :
    Calls Tryd.prog 3 #[.agg #[.bool p, .slice a na ca, .slice d nd cd]] w fun e w' => e = .returned (.bool true) ∧ Below w.heap.size w w' := by
  obtain ⟨z, PZ⟩ := Pz.ex r
  obtain ⟨x, y, ⟨m, ⟨xs, e1, e2, e3, e4, e5, e6⟩, hws⟩, ⟨ys, i1, i2, i3, i4, i5, i6⟩, hd⟩ := id hA
  have HD : Hid (Rat.divInt (ws p (val xs)) (val ys) = r) := by show _ = _; rw [e5, hws, i5, hd]
  have hxl : xs.length ≤ S := by omega
  have hyl : ys.length ≤ S := by omega
  obtain ⟨f1, HF1⟩ : ∃ f1, Hid (fb (flz z) = f1) := ⟨_, rfl⟩
  obtain ⟨f2, HF2⟩ : ∃ f2, Hid (fb (dnz z) = f2) := ⟨_, rfl⟩
  obtain ⟨f3, HF3⟩ : ∃ f3, Hid (fb (upz z) = f3) := ⟨_, rfl⟩
  obtain ⟨sd, HSD⟩ : ∃ sd, Hid (sdz z = sd) := ⟨_, rfl⟩
  have hf1 : ¬ 9218868437227405312 < f1 % 9223372036854775808 := by rw [← HF1.out]; have := (fb_ok PZ.fl.1 PZ.fl.2).1; omega
  have hf2 : ¬ 9218868437227405312 < f2 % 9223372036854775808 := by rw [← HF2.out]; have := (fb_ok PZ.dn.1 PZ.dn.2).1; omega
  have hf3 : ¬ 9218868437227405312 < f3 % 9223372036854775808 := by rw [← HF3.out]; have := (fb_ok PZ.up.1 PZ.up.2).1; omega
  have HS1 := fun u => sameF (b := f1) f1 (t := true) u hf1 (decide_eq_true rfl)
  have HS2 := fun u => sameF (b := f2) f2 (t := true) u hf2 (decide_eq_true rfl)
  have HS3 := fun u => sameF (b := f3) f3 (t := true) u hf3 (decide_eq_true rfl)
  have HR : ∀ u, Below w.heap.size w u → Reads u a xs ∧ Reads u d ys := fun u hu => ⟨e3.below hu, i3.below hu⟩
  have HE1 : Hid (na = xs.length) := e1
  have HI1 : Hid (nd = ys.length) := i1
  have hna : na ≤ 2000000 := by omega
  have hnd : nd ≤ 2000000 := by omega
  clear e1 i1 e3 e5 e6 i3 i5 i6 hws hd hf1 hf2 hf3
  have VA := var3_new w (.bool p) (.slice a na ca) (.slice d nd cd) 27
  have hb0 := bel_d0 w (.cells #[.bool p, .slice a na ca, .slice d nd cd] 27)
  replace hA := hA.below hb0
  replace hT := hT.below hb0
  go_enter Tryd.func3, Tryd.ntmps3
  go_wp2_with fail
  generalize w.alloc (.cells #[.bool p, .slice a na ca, .slice d nd cd] 27) = W0 at *
  refine (awake4 _ hT).mono ?_
  rintro e w0 ⟨rfl, hx⟩
  replace hA := hA.below hx
  replace VA := VA.below hx
  replace hb0 := bel_tr hb0 hx
  clear hx hT
  obtain ⟨vac0, vac1, vac2, vac3, vac4, vac5⟩ := id VA
  go_wp2_with fail
  refine (lend4 (xs := xs) (ys := ys) _ HE1.out e2 hna (HR _ hb0).1 HI1.out i2 hnd (HR _ hb0).2).mono ?_
  rintro e w1 ⟨b, b', rfl, HL, hx⟩
  clear vac0 vac1 vac2 vac3 vac4 vac5
  replace hA := hA.below hx
  replace VA := VA.below hx
  replace hb0 := bel_tr hb0 hx
  clear hx HR e2 i2
  have VO := var3_new w1 (.pointer (some ⟨b.r, 0, none⟩)) (.pointer (some ⟨b'.r, 0, none⟩)) (.bool p) 31
  have hx := bel_d0 w1 (.cells #[.pointer (some ⟨b.r, 0, none⟩), .pointer (some ⟨b'.r, 0, none⟩), .bool p] 31)
  replace hA := hA.below hx
  replace HL := HL.below hx
  replace VA := VA.below hx
  replace hb0 := bel_tr hb0 hx
  clear hx
  obtain ⟨vac0, vac1, vac2, vac3, vac4, vac5⟩ := id VA
  obtain ⟨voc0, voc1, voc2, voc3, voc4, voc5⟩ := id VO
  go_wp2_with fail
  generalize w1.alloc (.cells #[.pointer (some ⟨b.r, 0, none⟩), .pointer (some ⟨b'.r, 0, none⟩), .bool p] 31) = W1 at *
  refine (rat4 _ HL).mono ?_
  rintro e w2 ⟨rfl, hx⟩
  clear vac0 vac1 vac2 vac3 vac4 vac5 voc0 voc1 voc2 voc3 voc4 voc5
  replace hA := hA.below hx
  replace HL := HL.below hx
  replace VA := VA.below hx
  replace VO := VO.below hx
  replace hb0 := bel_tr hb0 hx
  clear hx
  obtain ⟨vac0, vac1, vac2, vac3, vac4, vac5⟩ := id VA
  obtain ⟨voc0, voc1, voc2, voc3, voc4, voc5⟩ := id VO
  go_wp2_with fail
  refine (floatQ z _ (HL.tr e4 i4 hxl hyl HD.out) (by omega) hS1 PZ HF1.out HSD.out).mono ?_
  rintro e w3 ⟨rfl, hx⟩
  clear vac0 vac1 vac2 vac3 vac4 vac5 voc0 voc1 voc2 voc3 voc4 voc5
  replace hA := hA.below hx
  replace HL := HL.below hx
  replace VA := VA.below hx
  replace VO := VO.below hx
  replace hb0 := bel_tr hb0 hx
  clear hx
  obtain ⟨vac0, vac1, vac2, vac3, vac4, vac5⟩ := id VA
  obtain ⟨voc0, voc1, voc2, voc3, voc4, voc5⟩ := id VO
  go_wp2_with fail
  refine (rat4 _ HL).mono ?_
  rintro e w4 ⟨rfl, hx⟩
  clear vac0 vac1 vac2 vac3 vac4 vac5 voc0 voc1 voc2 voc3 voc4 voc5
  replace hA := hA.below hx
  replace HL := HL.below hx
  replace VA := VA.below hx
  replace VO := VO.below hx
  replace hb0 := bel_tr hb0 hx
  clear hx
  obtain ⟨vac0, vac1, vac2, vac3, vac4, vac5⟩ := id VA
  obtain ⟨voc0, voc1, voc2, voc3, voc4, voc5⟩ := id VO
  go_wp2_with fail
  refine (downQ z _ (HL.tr e4 i4 hxl hyl HD.out) (by omega) hS1 PZ HF2.out).mono ?_
  rintro e w5 ⟨rfl, hx⟩
  clear vac0 vac1 vac2 vac3 vac4 vac5 voc0 voc1 voc2 voc3 voc4 voc5
  replace hA := hA.below hx
  replace HL := HL.below hx
  replace VA := VA.below hx
  replace VO := VO.below hx
  replace hb0 := bel_tr hb0 hx
  clear hx
  obtain ⟨vac0, vac1, vac2, vac3, vac4, vac5⟩ := id VA
  obtain ⟨voc0, voc1, voc2, voc3, voc4, voc5⟩ := id VO
  go_wp2_with fail
  refine (rat4 _ HL).mono ?_
  rintro e w6 ⟨rfl, hx⟩
  clear vac0 vac1 vac2 vac3 vac4 vac5 voc0 voc1 voc2 voc3 voc4 voc5
  replace hA := hA.below hx
  replace HL := HL.below hx
  replace VA := VA.below hx
  replace VO := VO.below hx
  replace hb0 := bel_tr hb0 hx
  clear hx
  obtain ⟨vac0, vac1, vac2, vac3, vac4, vac5⟩ := id VA
  obtain ⟨voc0, voc1, voc2, voc3, voc4, voc5⟩ := id VO
  go_wp2_with fail
  refine (upQ z _ (HL.tr e4 i4 hxl hyl HD.out) (by omega) hS1 PZ HF3.out).mono ?_
  rintro e w7 ⟨rfl, hx⟩
  clear vac0 vac1 vac2 vac3 vac4 vac5 voc0 voc1 voc2 voc3 voc4 voc5
  replace hA := hA.below hx
  replace HL := HL.below hx
  replace VA := VA.below hx
  replace VO := VO.below hx
  replace hb0 := bel_tr hb0 hx
  clear hx
  obtain ⟨vac0, vac1, vac2, vac3, vac4, vac5⟩ := id VA
  obtain ⟨voc0, voc1, voc2, voc3, voc4, voc5⟩ := id VO
  go_wp2_with fail
  refine (floatD z _ hA (by omega) hS1 PZ (by rw [HF1.out]) HSD.out).mono ?_
  rintro e w8 ⟨rfl, hx⟩
  clear vac0 vac1 vac2 vac3 vac4 vac5 voc0 voc1 voc2 voc3 voc4 voc5
  replace hA := hA.below hx
  replace HL := HL.below hx
  replace VA := VA.below hx
  replace VO := VO.below hx
  replace hb0 := bel_tr hb0 hx
  clear hx
  obtain ⟨vac0, vac1, vac2, vac3, vac4, vac5⟩ := id VA
  obtain ⟨voc0, voc1, voc2, voc3, voc4, voc5⟩ := id VO
  go_wp2_with fail
  refine (HS1 _).mono ?_
  rintro e w9 ⟨rfl, e9⟩
  subst e9
  go_wp2_with fail
  refine (dnD z _ hA (by omega) hS1 PZ (by rw [HF2.out])).mono ?_
  rintro e w10 ⟨rfl, hx⟩
  clear vac0 vac1 vac2 vac3 vac4 vac5 voc0 voc1 voc2 voc3 voc4 voc5
  replace hA := hA.below hx
  replace HL := HL.below hx
  replace VA := VA.below hx
  replace VO := VO.below hx
  replace hb0 := bel_tr hb0 hx
  clear hx
  obtain ⟨vac0, vac1, vac2, vac3, vac4, vac5⟩ := id VA
  obtain ⟨voc0, voc1, voc2, voc3, voc4, voc5⟩ := id VO
  go_wp2_with fail
  refine (HS2 _).mono ?_
  rintro e w11 ⟨rfl, e9⟩
  subst e9
  go_wp2_with fail
  refine (upD z _ hA (by omega) hS1 PZ (by rw [HF3.out])).mono ?_
  rintro e w12 ⟨rfl, hx⟩
  clear vac0 vac1 vac2 vac3 vac4 vac5 voc0 voc1 voc2 voc3 voc4 voc5
  replace hA := hA.below hx
  replace HL := HL.below hx
  replace VA := VA.below hx
  replace VO := VO.below hx
  replace hb0 := bel_tr hb0 hx
  clear hx
  obtain ⟨vac0, vac1, vac2, vac3, vac4, vac5⟩ := id VA
  obtain ⟨voc0, voc1, voc2, voc3, voc4, voc5⟩ := id VO
  go_wp2_with fail
  refine (HS3 _).mono ?_
  rintro e w13 ⟨rfl, e9⟩
  subst e9
  go_wp2_with fail
  refine (kept4 _ HL (by omega) (by omega)).mono ?_
  rintro e w14 ⟨rfl, hx⟩
  clear vac0 vac1 vac2 vac3 vac4 vac5 voc0 voc1 voc2 voc3 voc4 voc5
  replace hA := hA.below hx
  replace HL := HL.below hx
  replace VA := VA.below hx
  replace VO := VO.below hx
  replace hb0 := bel_tr hb0 hx
  clear hx
  obtain ⟨vac0, vac1, vac2, vac3, vac4, vac5⟩ := id VA
  obtain ⟨voc0, voc1, voc2, voc3, voc4, voc5⟩ := id VO
  clear HL hA VA VO HS1 HS2 HS3
  go_wp2
  go_ret
  exact ⟨by simp, hb0⟩
end Go.Proofs.YtjlmboakeigmpaaDoor

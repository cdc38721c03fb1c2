import Derived.Test.YtkbbdfflodiddabDoorR2All
import Derived.Test.YtkbbdfflodiddabDoorLndA
namespace Go.Proofs.YtkbbdfflodiddabDoor
open Go.RowKit
attribute [local go_sem ↓] Go.wp_at_zero Go.wp_at_succ

/-- A whole number that is lent: the struct at block r, its sign, its limbs b. -/
structure Len2 (w : World) (r : Nat) (p : Bool) (b : LB) (xs : List Int) : Prop where
  c0 : w.cell? ⟨r, 0, none⟩ = some (.bool p)
  c1 : w.cell? ⟨r, 1, none⟩ = some (.pointer (some ⟨b.r, 0, none⟩))
  ls : b.is w xs
  hn : b.n = xs.length
  lf : b.gf < r
  lw : b.gw < r
  lt : r < w.heap.size
theorem Len2.below {w w' : World} {r : Nat} {p : Bool} {b : LB} {xs : List Int} (h : Len2 w r p b xs) (hb : Below w.heap.size w w') : Len2 w' r p b xs :=
  ⟨kept_c hb h.c0, kept_c hb h.c1, h.ls.below hb, h.hn, h.lf, h.lw, by have := hb.size; have := h.lt; omega⟩
theorem Len2.ti {w : World} {r : Nat} {p : Bool} {b : LB} {xs : List Int} (h : Len2 w r p b xs) (hx : AllW xs) {S : Nat} (hS : xs.length ≤ S) : TI w p (some ⟨b.gf, 0, none⟩) b.n b.cf (ws p (val xs)) S := ⟨_, LB.num h.ls h.hn hx hS, rfl⟩
set_option maxHeartbeats 1000000 in
theorem lendI (p : Bool) {a : Option Addr} {na ca : Nat} (xs : List Int) (w : World) (hn : na = xs.length) (hl : na ≤ ca) (hm : na ≤ 2000000) (hr : Reads w a xs) :
    Calls Tryd.prog 7 #[.agg #[.bool p, .slice a na ca]] w fun e w' => ∃ r b, e = .returned (.pointer (some ⟨r, 0, none⟩)) ∧ Len2 w' r p b xs ∧ w.heap.size ≤ b.r ∧ Below w.heap.size w w' := by
  obtain ⟨P0, hb0, hsz⟩ := box1 w (.bool p) (.slice a na ca) 30
  replace hr := hr.below hb0
  have Hn : Hid (na = xs.length) := hn
  clear hn
  go_enter Tryd.func7, Tryd.ntmps7
  go_wp2_with fail
  generalize w.alloc (.cells #[.bool p, .slice a na ca] 30) = W0 at *
  obtain ⟨p00, p01, p02, p03⟩ := id P0
  go_region_held3 (fun w' => w'.cell? ⟨w.heap.size, 0, none⟩ = some (.bool p) ∧ w'.cell? ⟨w.heap.size, 1, none⟩ = some (.slice a na ca))
    (first | (go_keep; done) | (refine ⟨?_, ?_⟩ <;> first | exact kept_c hb1 (by go_keep)))
    ((first
      | (go_at_call 17; go_fit (lend_any a na ca xs _ Hn.out hl hm (hr.below (belN (Below.refl _ _) _))); rintro e w1 ⟨gf, cf, gw, cw, rfl, L, hb1⟩)))
  have hs0 : W0.drew.heap.size = w.heap.size + 1 := hsz
  have hbx : Below W0.heap.size W0 w1 := bel_tr (belN (Below.refl _ W0) 1) hb1
  have hs1 := hbx.size
  rw [hs0] at L
  obtain ⟨V, hv, hvs⟩ := box1 w1 (.bool p) (.pointer (some ⟨w.heap.size + 1, 0, none⟩)) 65
  have hw := bel_tr (bel_tr hb0 hbx) hv
  have lf := L.rf.lt
  have lw := L.rw.lt
  have L2 := L.below hv
  have hE : Len2 (w1.alloc (.cells #[.bool p, .pointer (some ⟨w.heap.size + 1, 0, none⟩)] 65)) w1.heap.size p ⟨w.heap.size + 1, gf, cf, gw, cw, na⟩ xs := ⟨V.c0, V.c1, L2, Hn.out, lf, lw, by omega⟩
  clear V L L2 hv hvs hs1 hbx hb1 P0 p00 p01 p02 p03 hr
  go_wp2
  go_ret
  exact ⟨_, _, rfl, hE, by show _ ≤ w.heap.size + 1; omega, hw⟩
set_option maxHeartbeats 1000000 in
theorem intI {r : Nat} {p : Bool} {b : LB} {xs : List Int} (w : World) (h : Len2 w r p b xs) :
    Calls Tryd.prog 8 #[.pointer (some ⟨r, 0, none⟩)] w fun e w' => e = .returned (.agg #[.bool p, .slice (some ⟨b.gf, 0, none⟩) b.n b.cf]) ∧ Below w.heap.size w w' := by
  obtain ⟨R0, hb0, hsz⟩ := box1 w (.bool false) (.slice none 0 0) 30
  replace h := h.below hb0
  have hlt : r ≠ w.heap.size := by rintro rfl; have e := R0.c0; have e2 := h.c1; have e3 := R0.c1; rw [e3] at e2; cases e2
  go_enter Tryd.func8, Tryd.ntmps8
  go_wp2_with fail
  generalize w.alloc (.cells #[.bool false, .slice none 0 0] 30) = W0 at *
  have k0 := h.c0
  have k1 := h.c1
  obtain ⟨L, hL⟩ : ∃ L, (lendL xs).length = L := ⟨_, rfl⟩
  have k2 := h.ls.c0
  have k3 := h.ls.c2
  have hnc : b.n ≤ b.cf := by have := h.ls.le; have := h.ls.rf.le; omega
  rw [hL] at k2
  clear hL
  obtain ⟨r0, r1, r2, r3⟩ := id R0
  go_region_held3 (fun w' => w'.cell? ⟨r, 0, none⟩ = some (.bool p) ∧ w'.cell? ⟨r, 1, none⟩ = some (.pointer (some ⟨b.r, 0, none⟩)))
    (first | (go_keep; done) | (refine ⟨?_, ?_⟩ <;> first | exact set2_far (by go_keep) (by simp <;> omega) | exact kept_c (by assumption) (by assumption)))
    ((first
      | (go_at_call 18; go_fit (lnat_c b.r b.gf b.cf b.n L _ (by simp [*]) (by simp [*]) hnc); rintro e w1 ⟨rfl, m1, rfl⟩)))
  have R1 := R0.below (belN (Below.refl _ _) (1 + m1))
  obtain ⟨V, O⟩ := R1.set (.bool p) (.slice (some ⟨b.gf, 0, none⟩) b.n b.cf)
  have hw := (belN hb0 (1 + m1)).trans (O.below (Nat.le_refl _))
  clear R0 R1 h k0 k1 k2 k3 r0 r1 r2 r3 hnc O hb0
  go_wp2
  refine bodyPost_ret (v := .agg #[.bool p, .slice (some ⟨b.gf, 0, none⟩) b.n b.cf]) (by simp [results, Tryd.results8, go_sem, V.c0, V.c1]) rfl ⟨rfl, hw⟩
set_option maxHeartbeats 1000000 in
theorem keptI {r : Nat} {p : Bool} {b : LB} {xs : List Int} (w : World) (h : Len2 w r p b xs) (hm : xs.length ≤ 2000000) :
    Calls Tryd.prog 13 #[.pointer (some ⟨r, 0, none⟩)] w fun e w' => e = .returned (.bool true) ∧ Below w.heap.size w w' := by
  have k1 := h.c1
  go_enter Tryd.func13, Tryd.ntmps13
  go_wp2_with fail
  refine (keptG _ b xs h.ls hm).mono ?_
  rintro e w1 ⟨rfl, hb⟩
  go_wp2
  go_ret
  exact ⟨rfl, hb⟩
theorem Len2.turned {w w' : World} {r : Nat} {p : Bool} {b : LB} {xs xs' : List Int} (h : Len2 w r p b xs) (hx : b.is w' xs') (hl : xs'.length = xs.length) (ho : Off2 b.gf b.gw w w') : Len2 w' r p b xs' := by
  have h1 := h.lf
  have h2 := h.lw
  exact ⟨(ho.cell (by show r ≠ _; omega) (by show r ≠ _; omega)).trans h.c0, (ho.cell (by show r ≠ _; omega) (by show r ≠ _; omega)).trans h.c1, hx, by rw [hl]; exact h.hn, h1, h2, by have := ho.size; have := h.lt; omega⟩
/-- What another number's turning leaves of a lent one. -/
theorem Len2.off2 {w w' : World} {r g k : Nat} {p : Bool} {b : LB} {xs : List Int} (h : Len2 w r p b xs) (ho : Off2 g k w w') (hg : g < b.r ∨ r < g) (hk : k < b.r ∨ r < k) : Len2 w' r p b xs := by
  have h1 := h.lf
  have h2 := h.lw
  have h3 := h.ls.lf
  have h4 := h.ls.lw
  have hR : ∀ i, w'.cell? ⟨r, i, none⟩ = w.cell? ⟨r, i, none⟩ := fun i => ho.cell (by show r ≠ _; omega) (by show r ≠ _; omega)
  have hY : ∀ i, w'.cell? ⟨b.r, i, none⟩ = w.cell? ⟨b.r, i, none⟩ := fun i => ho.cell (by show b.r ≠ _; omega) (by show b.r ≠ _; omega)
  refine ⟨by rw [hR]; exact h.c0, by rw [hR]; exact h.c1, ?_, h.hn, h1, h2, by have := ho.size; have := h.lt; omega⟩
  exact ⟨by rw [hY]; exact h.ls.c0, by rw [hY]; exact h.ls.c1, by rw [hY]; exact h.ls.c2, h.ls.rf.of_block (ho.block _ (by omega) (by omega)), h.ls.rw.of_block (ho.block _ (by omega) (by omega)), h.ls.ne, h3, h4, h.ls.le, by have := ho.size; have := h.ls.lr; omega, h.ls.eq⟩
theorem Var2.off2 {w w' : World} {R g k : Nat} {u v : Value} (h : Var2 w R u v) (ho : Off2 g k w w') (hg : R ≠ g) (hk : R ≠ k) : Var2 w' R u v := by
  have e := ho.block R hg hk
  exact ⟨(World.cell?_of_block (a := ⟨R, 0, none⟩) e).trans h.c0, (World.cell?_of_block (a := ⟨R, 1, none⟩) e).trans h.c1, (World.frozen?_of_block (a := ⟨R, 0, none⟩) e).trans h.f0, (World.frozen?_of_block (a := ⟨R, 1, none⟩) e).trans h.f1⟩
theorem Got.off2 {w w' : World} {B g k : Nat} {v : Value} {x : Int} {S : Nat} (h : Got w B v x S) (ho : Off2 g k w w') (hg : g < B) (hk : k < B) : Got w' B v x S := by
  obtain ⟨xs, h1, h2⟩ := h
  exact ⟨xs, h1.off2 ho hg hk, h2⟩
theorem GI.off2 {w w' : World} {B g k : Nat} {v : Value} {x : Int} {S : Nat} (h : GI w B v x S) (ho : Off2 g k w w') (hg : g < B) (hk : k < B) : GI w' B v x S := by
  obtain ⟨a, n, c, h1, h2⟩ := h; exact ⟨a, n, c, h1, h2.off2 ho hg hk⟩
set_option maxHeartbeats 1000000 in
theorem turnI {r : Nat} {p : Bool} {b : LB} {xs : List Int} (w : World) (h : Len2 w r p b xs) (hx : AllW xs) (hm : xs.length ≤ 2000000) :
    Calls Tryd.prog 14 #[.pointer (some ⟨r, 0, none⟩)] w fun e w' => e = .returned (.tuple #[]) ∧ ∃ xs', Len2 w' r p b xs' ∧ xs'.length = xs.length ∧ AllW xs' ∧ Off2 b.gf b.gw w w' := by
  have k1 := h.c1
  go_enter Tryd.func14, Tryd.ntmps14
  go_wp2_with fail
  refine (turn_any _ b xs h.ls h.hn hx hm).mono ?_
  rintro e w1 ⟨rfl, xs', h1, h2, h3, h4⟩
  have hE := h.turned h1 h2 h4
  clear h1 h k1
  go_wp2
  go_end0
  exact ⟨rfl, xs', hE, h2, h3, h4⟩
end Go.Proofs.YtkbbdfflodiddabDoor

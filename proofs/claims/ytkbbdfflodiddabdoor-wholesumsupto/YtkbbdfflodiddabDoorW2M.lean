import Derived.Test.YtkbbdfflodiddabDoorW2S
import Derived.Test.YtkbbdfflodiddabDoorW2L
import Derived.Test.YtkbbdfflodiddabDoorLentAll
import Derived.Test.YtkbbdfflodiddabDoorR2D
import Derived.Test.YtkbbdfflodiddabDoorWhG
namespace Go.Proofs.YtkbbdfflodiddabDoor
open Go.RowKit

set_option maxHeartbeats 1000000 in
/-- the document's Same of two numbers that are told by the same limbs -/
theorem rsameX {a b : Option Addr} {ca cb : Nat} {p : Bool} (xs : List Int) (w : World) (ha : Reads w a xs) (hb : Reads w b xs) (hl : xs.length ≤ 2000000) :
    Calls Tryd.prog 12 #[.agg #[.bool p, .slice a xs.length ca], .agg #[.bool p, .slice b xs.length cb]] w fun e w' => e = .returned (.bool true) ∧ Below w.heap.size w w' := by
  obtain ⟨P0, P1, hb0, hsz⟩ := box2 w (.bool p) (.slice a xs.length ca) (.bool p) (.slice b xs.length cb) 30
  replace ha := ha.below hb0
  replace hb := hb.below hb0
  go_enter Tryd.func12, Tryd.ntmps12
  go_wp2_with fail
  generalize (w.alloc (.cells #[.bool p, .slice a xs.length ca] 30)).alloc (.cells #[.bool p, .slice b xs.length cb] 30) = W0 at *
  obtain ⟨p00, p01, p02, p03⟩ := id P0
  obtain ⟨p10, p11, p12, p13⟩ := id P1
  refine (same_any a b xs.length xs.length ca cb xs xs _ rfl rfl (by omega) ha hb rfl).mono ?_
  rintro e w2 ⟨rfl, mm, rfl⟩
  have hw2 : Below w.heap.size w (W0.drewN mm) := bel_tr hb0 (belN (Below.refl _ _) mm)
  clear P0 P1 p00 p01 p02 p03 p10 p11 p12 p13 ha hb hb0
  go_wp2
  go_ret
  exact ⟨rfl, hw2⟩
theorem Off2.blk {g k : Nat} {w w' : World} (o : Off2 g k w w') {b : Nat} (h1 : b ≠ g) (h2 : b ≠ k) : w'.heap[b]? = w.heap[b]? := o.block b h1 h2
theorem ownsRow_off2 {w w' : World} {B : Nat} {e : TypeId} {z : Nat} {v : Value} {n : Nat} {vs : List Value} {g k : Nat} (h : w.ownsRow B e z v n vs) (ho : Off2 g k w w') (hg : v.ownBlock ≠ some g) (hk : v.ownBlock ≠ some k) : w'.ownsRow B e z v n vs := by
  refine ⟨h.1, ?_⟩
  rcases h.2 with hn | ⟨b, cap, cur, e1, e2, hgb, rest⟩
  · exact .inl hn
  · exact .inr ⟨b, cap, cur, e1, e2, (ho.block b (fun e => hg (by rw [e1, e]; rfl)) (fun e => hk (by rw [e1, e]; rfl))).trans hgb, rest⟩
/-- 'append(v, x, y)' of a list of whole numbers. -/
theorem wpList_appendI2 (w : World) {ops : Array Oper} {rest : List Oper} {o : Oper} {a : Act} {Q : Exit → Act → World → Prop} (hgd : o.guard = none) (s x : Operand)
    (ho : o.op = .call { callee := .builtin .append, args := #[s, x], argTypes := #[22, 22] }) (B : Nat) (v : Value) (n : Nat) (P : Nat → Bool) (V : Nat → Value) (hs : a.eval s = v) (hown : IL w B v n P V) (h c : Nat) (hx : a.eval x = .slice (some ⟨h, 0, none⟩) 2 c)
    (f1 f2 : Bool) (v1 v2 : Value) (hc : w.cell? ⟨h, 0, none⟩ = some (.bool f1) ∧ w.cell? ⟨h, 1, none⟩ = some v1 ∧ w.cell? ⟨h, 2, none⟩ = some (.bool f2) ∧ w.cell? ⟨h, 3, none⟩ = some v2) (hV1 : v1.oneCell' = true) (hV2 : v2.oneCell' = true) (hlen : n ≤ 1000000000000) (hB : B ≤ w.heap.size) (H : Nat) (hH : w.heap.size = H)
    (hK : ∀ g cap w', IL w' B (.slice (some ⟨g, 0, none⟩) (n + 2) cap) (n + 2) (updF (updF P n f1) (n + 1) f2) (updF (updF V n v1) (n + 1) v2) → w.grownBy w' v.ownBlock → (v.ownBlock = some g ∨ g = H) → g < w'.heap.size → wpList Tryd.prog ops Q rest (a.put o.dst (.slice (some ⟨g, 0, none⟩) (n + 2) cap)) w') :
    wpList Tryd.prog ops Q (o :: rest) a w := by
  obtain ⟨vs, h1, h2⟩ := hown
  obtain ⟨i0, z, hi, hz, hs3, hb56, hz3⟩ := info2L
  refine wpList_append_lies w hgd s x 22 ho B 30 i0 z 2 32 Tryd.underlying22 hi hz hs3 hb56 hz3 (by decide) v n vs hs h1 ⟨h, 0, none⟩ 2 c [.bool f1, v1, .bool f2, v2] hx rfl ?_ (fun u hu => by simp at hu; rcases hu with rfl | rfl | rfl | rfl <;> first | rfl | assumption) (by decide) (by unfold maxLen; omega) (by omega) hB H hH ?_
  · intro j u hj
    match j, hj with
    | 0, hj => simp at hj; subst hj; simpa [Addr.add] using hc.1
    | 1, hj => simp at hj; subst hj; simpa [Addr.add] using hc.2.1
    | 2, hj => simp at hj; subst hj; simpa [Addr.add] using hc.2.2.1
    | 3, hj => simp at hj; subst hj; simpa [Addr.add] using hc.2.2.2
  · intro g cap w' r1 r2 r3 r4
    refine hK g cap w' ⟨_, r1, fun i hi => ?_⟩ r2 r3 r4
    have e : vs.length = n * 2 := h1.1
    rcases (by omega : i < n ∨ i = n ∨ i = n + 1) with hi | rfl | rfl
    · rw [updF_lt (by omega), updF_lt hi, updF_lt (by omega), updF_lt hi]
      exact ⟨by rw [List.getElem?_append_left (by omega)]; exact (h2 i hi).1, by rw [List.getElem?_append_left (by omega)]; exact (h2 i hi).2⟩
    · rw [updF_lt (Nat.lt_succ_self _), updF_same, updF_lt (Nat.lt_succ_self _), updF_same]
      exact ⟨by rw [List.getElem?_append_right (by omega), e, Nat.sub_self]; rfl, by rw [List.getElem?_append_right (by omega), e, Nat.add_sub_cancel_left]; rfl⟩
    · rw [updF_same, updF_same]
      have e2 : (n + 1) * 2 = n * 2 + 2 := by omega
      exact ⟨by rw [List.getElem?_append_right (by omega), e, e2, Nat.add_sub_cancel_left]; rfl, by rw [List.getElem?_append_right (by omega), e, e2, Nat.add_assoc, Nat.add_sub_cancel_left]; rfl⟩
/-- What stands when the numbers have been lent and the two more appended. -/
structure HD (w : World) (B n : Nat) (R : Nat → Nat) (P P2 : Nat → Bool) (Bf : Nat → LB) (V2 : Nat → Value) (X : Nat → List Int) (lp : Value) (g cap : Nat) : Prop where
  pl : QL w B lp n R
  il : IL w B (.slice (some ⟨g, 0, none⟩) (n + 2) cap) (n + 2) P2 V2
  pe : ∀ i, i < n → P2 i = P i ∧ V2 i = inV Bf i
  ln : ∀ i, i < n → Len2 w (R i) (P i) (Bf i) (X i)
  lo : ∀ i, i < n → B ≤ (Bf i).r
  sep : ∀ i j, i < j → j < n → R i < (Bf j).r
theorem HD.below {w w' : World} {B n : Nat} {R : Nat → Nat} {P P2 : Nat → Bool} {Bf : Nat → LB} {V2 : Nat → Value} {X : Nat → List Int} {lp : Value} {g cap : Nat} (h : HD w B n R P P2 Bf V2 X lp g cap) (hb : Below w.heap.size w w') : HD w' B n R P P2 Bf V2 X lp g cap :=
  { h with pl := h.pl.below hb, il := h.il.below hb, ln := fun i hi => (h.ln i hi).below hb }
theorem HD.cells {w : World} {B n : Nat} {R : Nat → Nat} {P P2 : Nat → Bool} {Bf : Nat → LB} {V2 : Nat → Value} {X : Nat → List Int} {lp : Value} {g cap : Nat} (h : HD w B n R P P2 Bf V2 X lp g cap) : ∀ i, i < n → w.cell? ⟨g, i * 2, none⟩ = some (.bool (P i)) ∧ w.cell? ⟨g, i * 2 + 1, none⟩ = some (.slice (some ⟨(Bf i).gf, 0, none⟩) (Bf i).n (Bf i).cf) := fun i hi => by
  have h1 := h.il.cells i (by omega)
  rw [(h.pe i hi).1, (h.pe i hi).2] at h1
  exact h1
theorem HD.cap {w : World} {B n : Nat} {R : Nat → Nat} {P P2 : Nat → Bool} {Bf : Nat → LB} {V2 : Nat → Value} {X : Nat → List Int} {lp : Value} {g cap : Nat} (h : HD w B n R P P2 Bf V2 X lp g cap) : n + 2 ≤ cap := by
  obtain ⟨vs, h1, _⟩ := h.il
  rcases h1.2 with ⟨e1, _⟩ | ⟨g', cap', cur, e1, _, _, hc, _⟩
  · cases e1
  · simp only [Value.slice.injEq] at e1; omega
theorem LO.hd {w w' : World} {B n : Nat} {R : Nat → Nat} {P P2 : Nat → Bool} {Bf : Nat → LB} {V2 : Nat → Value} {X : Nat → List Int} {lp li : Value} {g cap : Nat} (h : LO w B n n n R P Bf X lp li) (hp : IL w' B (.slice (some ⟨g, 0, none⟩) (n + 2) cap) (n + 2) P2 V2) (hpe : ∀ i, i < n → P2 i = P i ∧ V2 i = inV Bf i) (hg : w.grownBy w' li.ownBlock) : HD w' B n R P P2 Bf V2 X lp g cap := by
  obtain ⟨vp, p1, p2⟩ := h.pl
  obtain ⟨vi, i1, i2⟩ := h.il
  refine ⟨⟨vp, World.ownsRow.kept p1 hg (row_neR p1 i1 (by decide)), p2⟩, hp, hpe, fun i hi => ?_, h.lo, h.sep⟩
  have hl := h.ln i hi
  exact hl.grown hg (h.ni i hi).1 (h.ni i hi).2 (row_neT i1 hl.ls.rf (by decide)) (row_neT i1 hl.ls.rw (by decide))
/-- One of the numbers has been turned. -/
theorem HD.turn {w w' : World} {B n q : Nat} {R : Nat → Nat} {P P2 : Nat → Bool} {Bf : Nat → LB} {V2 : Nat → Value} {X : Nat → List Int} {lp : Value} {g cap : Nat} {ys : List Int} (h : HD w B n R P P2 Bf V2 X lp g cap) (hq : q < n) (ho : Off2 (Bf q).gf (Bf q).gw w w') (hl : Len2 w' (R q) (P q) (Bf q) ys) : HD w' B n R P P2 Bf V2 (updF X q ys) lp g cap := by
  obtain ⟨vp, p1, p2⟩ := h.pl
  obtain ⟨vi, i1, i2⟩ := h.il
  have hk := h.ln q hq
  refine ⟨⟨vp, ownsRow_off2 p1 ho (row_neT p1 hk.ls.rf (by decide)) (row_neT p1 hk.ls.rw (by decide)), p2⟩, ⟨vi, ownsRow_off2 i1 ho (row_neT i1 hk.ls.rf (by decide)) (row_neT i1 hk.ls.rw (by decide)), i2⟩, h.pe, fun i hi => ?_, h.lo, h.sep⟩
  rcases Decidable.em (i = q) with e | e
  · subst e; rw [updF_same]; exact hl
  · have e2 : updF X q ys i = X i := by unfold updF; rw [if_neg e]
    rw [e2]
    have h1 := hk.ls.lf
    have h2 := hk.ls.lw
    have h3 := hk.lf
    have h4 := hk.lw
    rcases (by omega : i < q ∨ q < i) with hlt | hlt
    · have h5 := h.sep i q hlt hq
      exact (h.ln i hi).off2 ho (.inr (by omega)) (.inr (by omega))
    · have h5 := h.sep q i hlt hi
      exact (h.ln i hi).off2 ho (.inl (by omega)) (.inl (by omega))
end Go.Proofs.YtkbbdfflodiddabDoor

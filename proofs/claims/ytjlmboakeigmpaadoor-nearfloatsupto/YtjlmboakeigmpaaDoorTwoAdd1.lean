import Derived.Test.YtjlmboakeigmpaaDoorTwoAdd
namespace Go.Proofs.YtjlmboakeigmpaaDoor
open Go.RowKit

set_option maxRecDepth 100000 in
/-- 'append(l, y)' at a plain region. -/
theorem wpList_appendT1 (w : World) {ops : Array Oper} {rest : List Oper} {o : Oper} {a : Act} {Q : Exit → Act → World → Prop} (hgd : o.guard = none) (s x : Operand)
    (ho : o.op = .call { callee := .builtin .append, args := #[s, x], argTypes := #[109, 109] }) (B : Nat) (v : Value) (vs : List Value) (n : Nat) (hn : Hid (vs.length = n)) (hs : a.eval s = v) (hown : TL w B v vs) (h : Nat) (c : Nat) (y : Value) (hx : a.eval x = .slice (some ⟨h, 0, none⟩) 1 c)
    (hc : w.cell? ⟨h, 0, none⟩ = some y) (hy : y.oneCell' = true) (hlen : n ≤ 1000000000) (hB : B ≤ w.heap.size) (H : Nat) (hH : w.heap.size = H)
    (hK : ∀ g cap w', TL w' B (.slice (some ⟨g, 0, none⟩) (n + 1) cap) (vs ++ [y]) → w.grownBy w' v.ownBlock → (v.ownBlock = some g ∨ g = H) → g < w'.heap.size → wpList Tryd.prog ops Q rest (a.put o.dst (.slice (some ⟨g, 0, none⟩) (n + 1) cap)) w') :
    wpList Tryd.prog ops Q (o :: rest) a w := by
  obtain rfl := hn.out
  obtain ⟨i0, hi, hz0, hz1, hz2⟩ := info_parts Tryd.infoNat
  refine wpList_append_lies w hgd s x 109 ho B 23 i0 (.slice none 0 0) 1 24 Tryd.underlying109 hi hz0 hz1 hz2 rfl (by decide) v vs.length vs hs hown ⟨h, 0, none⟩ 1 c [y] hx rfl ?_ (fun u hu => by simp at hu; subst hu; exact hy) (by decide) (by unfold maxLen; omega) (by omega) hB H hH ?_
  · intro j u hj
    match j, hj with
    | 0, hj => simp at hj; subst hj; simpa [Addr.add] using hc
  · intro g cap w' h1 h2 h3 h4
    refine hK g cap w' ?_ h2 h3 h4
    unfold TL
    simpa using h1
/-- 't.l = append(t.l, v1)' has been carried out. -/
theorem outs_add1 {w w1 : World} {B T : Nat} {x y : LB} {xs ys : List Int} {lv nv : Value} {l : List (Value × List Int)} {blk : Obj} {v1 : Value} {us1 : List Int} (H : Two w B T x y xs ys lv) (O : Outs w T lv l) (o1 : OwnV w (T + 1) v1 us1)
    (d1 : ∀ p ∈ l, ∀ g, p.1.ownBlock = some g → v1.ownBlock ≠ some g) (s1 : us1.length ≤ 1000000000)
    (hown : TL w1 (T + 1) nv (l.map (·.1) ++ [v1])) (hgrow : (w.alloc blk).grownBy w1 lv.ownBlock) :
    Two (w1.setCell ⟨T, 2, none⟩ nv) B T x y xs ys nv ∧ Outs (w1.setCell ⟨T, 2, none⟩ nv) T nv (l ++ [(v1, us1)]) ∧ Below T w (w1.setCell ⟨T, 2, none⟩ nv) ∧ w1.cell? ⟨T, 2, none⟩ = some lv ∧ w1.frozen? ⟨T, 2, none⟩ = false := by
  have hlt := H.lt
  have hbA : Below w.heap.size w (w.alloc blk) := (Below.refl _ _).alloc (Nat.le_refl _) _
  have hszA : (w.alloc blk).heap.size = w.heap.size + 1 := by simp
  have hrow : ∀ q, lv.ownBlock = some q → T + 1 ≤ q := fun q hq => (O.tl.lt q hq).1
  have hb1 : Below (T + 1) w w1 := (hbA.mono (by omega)).trans (grown_below hgrow (by omega) hrow)
  have hb1' : Below T w w1 := hb1.mono (by omega)
  have hb2 : Below T w (w1.setCell ⟨T, 2, none⟩ nv) := hb1'.setCell (Nat.le_refl _) _
  have hc : ∀ i, w1.cell? ⟨T, i, none⟩ = w.cell? ⟨T, i, none⟩ := fun i => hb1.cell (p := ⟨T, i, none⟩) (Nat.lt_succ_self T)
  have hfz : w1.frozen? ⟨T, 2, none⟩ = w.frozen? ⟨T, 2, none⟩ := World.frozen?_of_block (w := w) (hb1.block T (Nat.lt_succ_self T))
  have keep : ∀ {v : Value} {us : List Int}, OwnV w (T + 1) v us → OwnV (w1.setCell ⟨T, 2, none⟩ nv) (T + 1) v us := fun {v us} h =>
    ((h.alloc blk).grown hgrow ((O.tl.alloc blk).ne (h.alloc blk))).set_below (by simp) _
  refine ⟨⟨?_, ?_, ?_, ?_, H.lx.low hb2 (H.lo.2.2.2.1) (by have := H.xy'; have := H.ly.lf; have := H.yT; omega), H.ly.low hb2 H.yT H.yT', H.bx, H.xy, H.xy', H.yT, H.yT', by have := hb2.size; omega⟩, ⟨?_, ?_, ?_, ?_⟩, hb2, by rw [hc]; exact H.c2, by rw [hfz]; exact H.fz⟩
  · rw [World.cell?_setCell_other _ _ _ _ (by simp), hc]; exact H.c0
  · rw [World.cell?_setCell_other _ _ _ _ (by simp), hc]; exact H.c1
  · exact World.cell?_setCell_same _ _ _ (by rw [hc]; exact H.c2)
  · rw [World.frozen?_setCell, hfz]; exact H.fz
  · rw [List.map_append]
    exact hown.set_below (by simp) _
  · intro p hp
    rcases List.mem_append.1 hp with hp | hp
    · exact keep (O.ov p hp)
    · simp only [List.mem_cons, List.not_mem_nil, or_false] at hp
      subst hp
      exact keep o1
  · rw [List.pairwise_append]
    refine ⟨O.dj, ?_, ?_⟩
    · simp
    · intro p hp q hq
      simp only [List.mem_cons, List.not_mem_nil, or_false] at hq
      subst hq
      exact d1 p hp
  · intro p hp
    rcases List.mem_append.1 hp with hp | hp
    · exact O.sz p hp
    · simp only [List.mem_cons, List.not_mem_nil, or_false] at hp
      subst hp
      exact s1
end Go.Proofs.YtjlmboakeigmpaaDoor

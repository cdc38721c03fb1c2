import Derived.Test.YtogdpgfccbohnaaDoorRefP
import Derived.Laws.AppendOwnNone
namespace Go.Proofs.YtogdpgfccbohnaaDoor
open Go.RowKit

theorem run_append_none0 {P : Program} {w : World} (base : Nat) (t ty e : TypeId) (i : TypeInfo) (size : Nat) (ht : P.underlying t = some (.slice e)) (hi : P.info? e = some i)
    (v : Value) (n : Nat) (xs : List Value) (hown : w.ownsRow base e size v n xs) (c : Nat) :
    (Builtin.append_ #[t, t] ty #[v, .slice none 0 c]).run P w = .ok v w := by
  have h := run_append_owned_none (P := P) (w := w) base t ty e i size ht hi v n xs hown
  rw [← h]
  rfl
theorem wpList_append_none0 {P : Program} {w : World} {ops : Array Oper} {rest : List Oper} {o : Oper} {a : Act} {Q : Exit → Act → World → Prop} (hgd : o.guard = none) (s x : Operand) (t : TypeId)
    (ho : o.op = .call { callee := .builtin .append, args := #[s, x], argTypes := #[t, t] })
    (base : Nat) (e : TypeId) (i : TypeInfo) (size : Nat) (ht : P.underlying t = some (.slice e)) (hi : P.info? e = some i)
    (v : Value) (n : Nat) (xs : List Value) (hs : a.eval s = v) (hown : w.ownsRow base e size v n xs) (c : Nat) (hx : a.eval x = .slice none 0 c)
    (h : wpList P ops Q rest (a.put o.dst v) w) : wpList P ops Q (o :: rest) a w := by
  refine wpList_plain hgd fun K hK => ?_
  have hrun := run_append_none0 (P := P) (w := w) base t o.type e i size ht hi v n xs hown c
  unfold Oper.wp
  simp [execOp, ho, resolve, invoke, builtin, hs, hx, hrun, Result.andThen]
  exact hK _ _ h

/-- 'append(v, s...)' at a plain region: v one's own, s read from wherever it lies. -/
theorem wpList_appendL (t : TypeId) (ht : Tryd.prog.underlying t = some (.slice 24)) (w : World) {ops : Array Oper} {rest : List Oper} {o : Oper} {a : Act} {Q : Exit → Act → World → Prop} (hgd : o.guard = none) (s x : Operand)
    (ho : o.op = .call { callee := .builtin .append, args := #[s, x], argTypes := #[t, t] }) (B : Nat) (v : Value) (xs : List Int) (hs : a.eval s = v) (hown : OwnV w B v xs) (p : Option Addr) (m c : Nat) (ys : List Int) (hx : a.eval x = .slice p m c)
    (hm : m = ys.length) (hr : Reads w p ys) (hlen : xs.length + m ≤ 1000000000000) (hB : B ≤ w.heap.size)
    (hK : ∀ v' w', OwnV w' B v' (xs ++ ys) → w.grownBy w' v.ownBlock → wpList Tryd.prog ops Q rest (a.put o.dst v') w') :
    wpList Tryd.prog ops Q (o :: rest) a w := by
  subst hm
  obtain ⟨i0, hi, hz0, hz1, hz2⟩ := info_parts Tryd.infoU64
  have own' : ∀ v' w', w'.ownsRow B 24 1 v' (xs.length + ys.length) (xs.map (Value.int .u64) ++ ys.map (Value.int .u64)) → w.grownBy w' v.ownBlock → wpList Tryd.prog ops Q rest (a.put o.dst v') w' := fun v' w' h1 h2 => hK v' w' (by unfold OwnV; simpa using h1) h2
  rcases p with _ | ⟨ad⟩
  · have hy : ys = [] := by rcases hr with h | ⟨b, o', h, _⟩; exact h; cases h
    subst hy
    refine wpList_append_none0 hgd s x t ho B 24 i0 1 ht hi v xs.length (xs.map (Value.int .u64)) hs hown c hx ?_
    exact hK v w (by simpa using hown) (World.grownBy.refl _ _)
  · refine wpList_append_own w hgd s x t ho B 24 i0 (.int .u64 0) 1 8 ht hi hz0 hz1 hz2 rfl (by decide) v xs.length (xs.map (Value.int .u64)) hs hown ad ys.length c (ys.map (Value.int .u64)) hx (by simp) ?_ (fun u hu => by simp only [List.mem_map] at hu; obtain ⟨x, _, rfl⟩ := hu; rfl) (by unfold maxLen; omega) (by omega) hB (fun v' w' h1 h2 _ => own' v' w' h1 h2)
    intro j u hj
    simp only [List.getElem?_map, Option.map_eq_some_iff] at hj
    obtain ⟨y, hy, rfl⟩ := hj
    have hjl : j < ys.length := (List.getElem?_eq_some_iff.1 hy).1
    rw [lm_lt hjl] at hy
    cases hy
    obtain ⟨b, o', h, hc⟩ := hr.at (by omega)
    cases h
    have := hc j hjl
    by_cases h0 : j = 0
    · subst h0; simpa [Addr.add] using this
    · simpa [Addr.add, h0] using this

theorem valH_cons (z : Int) (rs : List Int) : valH (z :: rs) = z + 4294967296 * valH rs := by
  have h : ∀ n, vH (z :: rs) (n + 1) = z + 4294967296 * vH rs n := by
    intro n
    induction n with
    | zero => simp [vH, lm, pwH]
    | succ n ih =>
      rw [vH_top, ih, vH_top, pwH_succ]
      have e : lm (z :: rs) (n + 1) = lm rs n := by simp [lm]
      rw [e, Int.mul_add, Int.add_assoc]
      congr 2
      ac_rfl
  show vH (z :: rs) (rs.length + 1) = _
  rw [h]; rfl
theorem HNum.shrink {w : World} {a : Option Addr} {n cap : Nat} {x : Int} {S m : Nat} (h : HNum w a n cap x S) (hx : x < pwH m) : HNum w a n cap x m := by
  obtain ⟨hs, h1, h2, h3, h4, h5, h6, h7⟩ := h
  refine ⟨hs, h1, h2, h3, h4, h5, ?_, h7⟩
  rcases Nat.lt_or_ge m n with h | h
  · have g := valH_ge h4 (by omega)
    have := pwH_mono (a := m) (b := tlen hs - 1) (by omega)
    omega
  · exact h
end Go.Proofs.YtogdpgfccbohnaaDoor

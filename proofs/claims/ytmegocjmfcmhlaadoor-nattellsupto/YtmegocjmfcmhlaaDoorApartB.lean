import Derived.Test.YtmegocjmfcmhlaaDoorApartA
import Derived.ArgAppend
namespace Go.Proofs.YtmegocjmfcmhlaaDoor
open Go.RowKit

theorem cell_new1' {w : World} {h : Nat} {v : Value} {t : TypeId} (hh : h = w.heap.size) : (w.alloc (.cells #[v] t)).cell? ⟨h, 0, none⟩ = some v := by subst hh; simp
/-- Where an append's new slice lies: in the old block, of the same room; or in a new one, and then no old block has changed. -/
def Lies (w w' : World) (v : Value) (g cap : Nat) : Prop :=
  (∃ n, v = .slice (some ⟨g, 0, none⟩) n cap ∧ w.grownBy w' (some g)) ∨ (w.heap.size ≤ g ∧ w.grownBy w' none)
/-- 'append(v, z)' at a plain region, with what becomes of v. -/
theorem wpList_appendD (t : TypeId) (ht : Tryd.prog.underlying t = some (.slice 37)) (w : World) {ops : Array Oper} {rest : List Oper} {o : Oper} {a : Act} {Q : Exit → Act → World → Prop} (hgd : o.guard = none) (s x : Operand)
    (ho : o.op = .call { callee := .builtin .append, args := #[s, x], argTypes := #[t, t] }) (B : Nat) (v : Value) (xs : List Int) (n : Nat) (hn : Hid (xs.length = n)) (hs : a.eval s = v) (hown : OwnV w B v xs) (h : Nat) (c : Nat) (z : Int) (hx : a.eval x = .slice (some ⟨h, 0, none⟩) 1 c)
    (hc : w.cell? ⟨h, 0, none⟩ = some (.int .u64 z)) (hlen : n ≤ 1000000000000) (hB : B ≤ w.heap.size)
    (hK : ∀ g cap w', OwnV w' B (.slice (some ⟨g, 0, none⟩) (n + 1) cap) (xs ++ [z]) → Lies w w' v g cap → wpList Tryd.prog ops Q rest (a.put o.dst (.slice (some ⟨g, 0, none⟩) (n + 1) cap)) w') :
    wpList Tryd.prog ops Q (o :: rest) a w := by
  obtain rfl := hn.out
  obtain ⟨i0, hi, hz0, hz1, hz2⟩ := info_parts Tryd.infoU64
  have hnews : ∀ j u, [Value.int IntKind.u64 z][j]? = some u → w.cell? (Addr.add ⟨h, 0, none⟩ j) = some u := by
    intro j u hj
    match j, hj with
    | 0, hj => simp at hj; subst hj; simpa [Addr.add] using hc
  have h1c : ∀ u ∈ [Value.int IntKind.u64 z], u.oneCell' = true := fun u hu => by simp at hu; subst hu; rfl
  have grows : ∀ (ao : Option Addr) (cap : Nat), a.eval s = .slice ao xs.length cap → (ao = none → xs.length = 0 ∧ cap = 0) → (∀ b, ao = some b → ∀ j u, (xs.map (Value.int .u64))[j]? = some u → w.cell? (b.add j) = some u) → cap < xs.length + 1 → wpList Tryd.prog ops Q (o :: rest) a w := by
    intro ao cap hs' hnone holds hfull
    refine wpList_append_grows w hgd s x t ho 37 i0 (.int .u64 0) 1 8 ht hi hz0 hz1 hz2 rfl (by decide) ao xs.length cap (xs.map (Value.int .u64)) hs' hnone (by simp) holds ⟨h, 0, none⟩ 1 c [.int .u64 z] hx rfl hnews h1c hfull (by unfold maxLen; omega) (by omega) ?_
    intro v' w' h2 h3
    obtain ⟨g, cap', rfl, hBg, _⟩ := h2.form (by omega)
    have h2' : OwnV w' w.heap.size (.slice (some ⟨g, 0, none⟩) (xs.length + 1) cap') (xs ++ [z]) := by unfold OwnV; simpa using h2
    exact hK g cap' w' (h2'.mono hB) (.inr ⟨hBg, h3⟩)
  rcases hown.row with ⟨rfl, rfl⟩ | ⟨g, cap, rfl, hBg, hr⟩
  · exact grows none 0 hs (fun _ => ⟨rfl, rfl⟩) (fun b hb => by cases hb) (by simp)
  · by_cases hroom : xs.length + 1 ≤ cap
    · refine wpList_append_fits w hgd s x t ho B 37 i0 1 ht hi hz1 g xs.length cap (xs.map (Value.int .u64)) hs hown ⟨h, 0, none⟩ 1 c [.int .u64 z] hx rfl hnews h1c hroom ?_
      intro w' h2 h3
      exact hK g cap w' (by unfold OwnV; simpa using h2) (.inl ⟨xs.length, rfl, h3⟩)
    · refine grows _ cap hs (fun e => by cases e) ?_ (by omega)
      intro b hb j u hu
      cases hb
      simp only [List.getElem?_map, Option.map_eq_some_iff] at hu
      obtain ⟨y, hy, rfl⟩ := hu
      have hj : j < xs.length := (List.getElem?_eq_some_iff.1 hy).1
      rw [lm_lt hj] at hy
      cases hy
      have := hr.cell hj
      by_cases h0 : j = 0
      · subst h0; simpa [Addr.add] using this
      · simpa [Addr.add, h0] using this

/-- A slice of slices that the call owns. -/
def TOwn (w : World) (B : Nat) (lv : Value) (n : Nat) (Y : Nat → Value) : Prop := w.ownsRow B 23 1 lv n ((List.range n).map Y)
theorem TOwn.nil (w : World) (B : Nat) (Y : Nat → Value) : TOwn w B (.slice none 0 0) 0 Y := World.ownsRow_nil _ _ _ _
theorem TOwn.row {w : World} {B : Nat} {lv : Value} {n : Nat} {Y : Nat → Value} (h : TOwn w B lv n Y) (hn : 0 < n) : ∃ g cap, lv = .slice (some ⟨g, 0, none⟩) n cap ∧ TRow w g n Y ∧ n ≤ cap := by
  rcases h.2 with ⟨_, h2⟩ | ⟨g, cap, cur, h1, h2, h3, h4, h5, h6, h7⟩
  · omega
  · refine ⟨g, cap, h1, ⟨cur, h3, fun i hi => ?_⟩, h4⟩
    have := congrArg (fun l => l[i]?) h7
    simp only [Nat.mul_one, List.getElem?_take_of_lt hi, List.getElem?_map, List.getElem?_range hi] at this
    simpa using this
theorem TOwn.ne {w : World} {B B' : Nat} {lv u : Value} {n : Nat} {Y : Nat → Value} {xs : List Int} (h : TOwn w B lv n Y) (ho : OwnV w B' u xs) : u.ownBlock = none ∨ u.ownBlock ≠ lv.ownBlock := by
  rcases h.2 with ⟨h1, _⟩ | ⟨g, cap, cur, h1, h2, h3, _⟩
  · subst h1
    cases e : u.ownBlock with
    | none => exact .inl rfl
    | some k => exact .inr (by simp [Value.ownBlock])
  · right
    subst h1
    intro e
    rcases ho.row with ⟨rfl, _⟩ | ⟨k, cap2, rfl, _, cur2, h4, _⟩
    · simp [Value.ownBlock] at e
    · simp only [Value.ownBlock, Option.some.injEq] at e
      subst e
      rw [h3] at h4
      simp at h4
theorem Tryd.infoNat : (Tryd.prog.info? 23).map (fun i => (i.zero, i.size, i.bytes)) = some (some (.slice none 0 0), 1, 24) := by kernel_rfl
end Go.Proofs.YtmegocjmfcmhlaaDoor

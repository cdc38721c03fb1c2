import Derived.Test.YtbkkepbmaadomaaGreatDoorChAll
import Derived.Test.YtbkkepbmaadomaaGreatDoorNumAll
import Derived.Test.YtbkkepbmaadomaaGreatDoorTwoAll
import Derived.Test.YtbkkepbmaadomaaGreatDoorRefAll
import Derived.Test.YtbkkepbmaadomaaGreatDoorWhAll
namespace Go.Proofs.YtbkkepbmaadomaaGreatDoor
open Go.RowKit

end Go.Proofs.YtbkkepbmaadomaaGreatDoor

namespace Go.Proofs.YtbkkepbmaadomaaGreatDoor
open Go.RowKit

theorem chs_le (n k : Nat) : chs n k ≤ 2 ^ n := by
  induction n generalizing k with
  | zero => cases k <;> simp [chs]
  | succ n ih =>
    cases k with
    | zero => rw [chs_zero]; exact Nat.one_le_two_pow
    | succ k =>
      show chs n k + chs n (k + 1) ≤ _
      have h1 := ih k
      have h2 := ih (k + 1)
      rw [Nat.pow_succ]; omega
theorem chs_small' {n k K : Nat} (h : n ≤ 300) (hK : 5 ≤ K) : ((chs n k : Nat) : Int) < pw K := by
  rw [pwN]
  refine Int.ofNat_lt.2 (Nat.lt_of_le_of_lt (chs_le n k) ?_)
  exact Nat.pow_lt_pow_right (by decide) (by omega)
theorem chs_small {n k : Nat} (h : n ≤ 300) : ((chs n k : Nat) : Int) < pw 5 := chs_small' h (Nat.le_refl _)
/-- A row of Pascal's triangle, its first L places: each number has memory of its own from block B on. -/
def Tri (w : World) (B C : Nat) (rv : Value) (i L : Nat) : Prop := ∃ vs, TL w C rv vs ∧ vs.length = L ∧ ∀ j, j < L → ∃ v, vs[j]? = some v ∧ Got w B v (chs i j) 5
theorem Tri.below {w w' : World} {B C : Nat} {rv : Value} {i L : Nat} (h : Tri w B C rv i L) (hb : Below w.heap.size w w') : Tri w' B C rv i L := by
  obtain ⟨vs, h1, h2, h3⟩ := h
  exact ⟨vs, h1.below hb, h2, fun j hj => by obtain ⟨v, e, g⟩ := h3 j hj; exact ⟨v, e, g.below hb⟩⟩
theorem Tri.mono {w : World} {B C C' : Nat} {rv : Value} {i L : Nat} (h : Tri w B C rv i L) (hC : C' ≤ C) : Tri w B C' rv i L := by
  obtain ⟨vs, h1, h2, h3⟩ := h
  refine ⟨vs, ⟨h1.1, ?_⟩, h2, h3⟩
  rcases h1.2 with h | ⟨g, cap, cur, e1, e2, e3⟩
  · exact .inl h
  · exact .inr ⟨g, cap, cur, e1, by omega, e3⟩
theorem Tri.at {w : World} {B C : Nat} {rv : Value} {i L : Nat} (h : Tri w B C rv i L) (hL : 0 < L) : ∃ g cap, rv = .slice (some ⟨g, 0, none⟩) L cap ∧ L ≤ cap ∧ ∀ j, j < L → ∃ a n c, w.cell? ⟨g, j, none⟩ = some (.slice a n c) ∧ Got w B (.slice a n c) (chs i j) 5 := by
  obtain ⟨vs, h1, h2, h3⟩ := h
  subst h2
  rcases h1.2 with ⟨e1, e2⟩ | ⟨g, cap, cur, e1, e2, e3, e4, e5, e6, e7⟩
  · omega
  · refine ⟨g, cap, e1, e4, fun j hj => ?_⟩
    obtain ⟨v, ev, G⟩ := h3 j hj
    obtain ⟨a, n, c, rfl⟩ := G.form
    refine ⟨a, n, c, ?_, G⟩
    have := congrArg (fun l => l[j]?) e7
    simp only [Nat.mul_one, List.getElem?_take_of_lt hj] at this
    rw [ev] at this
    have h8 : cur[j]? = some (.slice a n c) := by simpa using this
    simp [World.cell?, e3, h8]
theorem got_one {w : World} : Got (w.alloc (.cells #[Value.int .u64 1] 22)) w.heap.size (.slice (some ⟨w.heap.size, 0, none⟩) 1 1) 1 1 := by
  have hbk : Blk (w.alloc (Obj.cells #[Value.int IntKind.u64 1] 22)) w.heap.size [1] := blk_new [1]
  have G0 := got_of_blk hbk (fun x hx => by simp at hx; subst hx; exact ⟨by omega, by omega⟩) (Nat.le_refl _) 1 rfl (S := 1) (by simp) (by simp)
  have e1 : tlen [(1 : Int)] = 1 := by decide
  have e2 : val [(1 : Int)] = 1 := by decide
  rwa [e1, e2] at G0
/-- '[]api.Nat{{1}}' -/
theorem tri_one (w : World) (i : Nat) : Tri ((w.alloc (.cells #[Value.int .u64 1] 22)).alloc (.cells #[.slice (some ⟨w.heap.size, 0, none⟩) 1 1] 31)) w.heap.size (w.heap.size + 1) (.slice (some ⟨w.heap.size + 1, 0, none⟩) 1 1) i 1 := by
  have G := (got_one (w := w)).below ((Below.refl _ _).alloc (Nat.le_refl _) (.cells #[.slice (some ⟨w.heap.size, 0, none⟩) 1 1] 31))
  refine ⟨[.slice (some ⟨w.heap.size, 0, none⟩) 1 1], ⟨by simp, .inr ⟨w.heap.size + 1, 1, #[.slice (some ⟨w.heap.size, 0, none⟩) 1 1], rfl, Nat.le_refl _, ?_, by simp, by unfold maxLen; omega, by simp, by simp⟩⟩, rfl, fun j hj => ?_⟩
  · have := heap_alloc_new (w.alloc (.cells #[Value.int .u64 1] 22)) (.cells #[.slice (some ⟨w.heap.size, 0, none⟩) 1 1] 31)
    simpa using this
  · obtain rfl : j = 0 := by omega
    refine ⟨_, rfl, ?_⟩
    rw [chs_zero]
    exact G.le (by omega)
/-- 'next = append(next, s)' -/
theorem tri_add {w w1 : World} {B C g cap i L : Nat} {nv s : Value} {vs : List Value} {blk : Obj} (hvs : vs.length = L) (hT : TL w C nv vs) (hG : ∀ j, j < L → ∃ v, vs[j]? = some v ∧ Got w B v (chs i j) 5) (hs : Got w B s (chs i L) 5)
    (hown : TL w1 C (.slice (some ⟨g, 0, none⟩) (L + 1) cap) (vs ++ [s])) (hgrow : (w.alloc blk).grownBy w1 nv.ownBlock) : Tri w1 B C (.slice (some ⟨g, 0, none⟩) (L + 1) cap) i (L + 1) := by
  have keep : ∀ {v : Value} {x : Int}, Got w B v x 5 → Got w1 B v x 5 := fun {v x} h => by
    obtain ⟨xs, o, r⟩ := h
    exact ⟨xs, (o.alloc blk).grown hgrow ((hT.alloc blk).ne (o.alloc blk)), r⟩
  refine ⟨_, hown, by simp [hvs], fun j hj => ?_⟩
  rcases Nat.lt_or_ge j L with h | h
  · obtain ⟨v, e, G⟩ := hG j h
    exact ⟨v, by rw [List.getElem?_append_left (by omega)]; exact e, keep G⟩
  · obtain rfl : j = L := by omega
    exact ⟨s, by rw [List.getElem?_append_right (by omega), hvs]; simp, keep hs⟩
/-- The other row stands. -/
theorem tri_keep {w w1 : World} {B C B' C' i L i' L' H : Nat} {rv nv : Value} {blk : Obj} (hR : Tri w B C rv i L) (hN : Tri w B' C' nv i' L') (hr : ∀ k, rv.ownBlock = some k → k < H) (hn : ∀ k, nv.ownBlock = some k → H ≤ k) (hgrow : (w.alloc blk).grownBy w1 nv.ownBlock) : Tri w1 B C rv i L := by
  obtain ⟨vs, h1, h2, h3⟩ := hR
  obtain ⟨us, u1, _⟩ := hN
  refine ⟨vs, World.ownsRow.kept (World.ownsRow.alloc h1 blk) hgrow ?_, h2, fun j hj => ?_⟩
  · cases e : rv.ownBlock with
    | none => exact .inl rfl
    | some k => exact .inr (fun e2 => by have a := hr k e; have b := hn k e2.symm; omega)
  · obtain ⟨v, e, xs, o, r⟩ := h3 j hj
    exact ⟨v, e, xs, (o.alloc blk).grown hgrow ((u1.alloc blk).ne (o.alloc blk)), r⟩
end Go.Proofs.YtbkkepbmaadomaaGreatDoor

import Derived.Test.YtjlmboakeigmpaaDoorTwo
import Derived.Deep.DrawnRows
import Derived.Deep.DeepFit
namespace Go.Proofs.YtjlmboakeigmpaaDoor
open Go.RowKit
attribute [local go_sem ↓] Go.wp_at_zero Go.wp_at_succ

/-- What came out of the calls: the list lv holds it; each has memory of its own above block T. -/
structure Outs (w : World) (T : Nat) (lv : Value) (l : List (Value × List Int)) : Prop where
  tl : TL w (T + 1) lv (l.map (·.1))
  ov : ∀ p ∈ l, OwnV w (T + 1) p.1 p.2
  dj : l.Pairwise fun p q => ∀ g, p.1.ownBlock = some g → q.1.ownBlock ≠ some g
  sz : ∀ p ∈ l, p.2.length ≤ 1000000000
theorem Outs.nil (w : World) (T : Nat) : Outs w T (.slice none 0 0) [] := ⟨TL.nil _ _, fun _ hp => absurd hp (List.not_mem_nil), List.Pairwise.nil, fun _ hp => absurd hp (List.not_mem_nil)⟩
theorem Outs.below {w w' : World} {T : Nat} {lv : Value} {l : List (Value × List Int)} (h : Outs w T lv l) (hb : Below w.heap.size w w') : Outs w' T lv l :=
  ⟨h.tl.below hb, fun p hp => (h.ov p hp).below hb, h.dj, h.sz⟩

theorem keep_grown {w w1 : World} {row : Option Nat} {p : Addr} {v : Value} {B : Nat} (hg : w.grownBy w1 row) (hr : ∀ q, row = some q → B ≤ q) (hp : p.block < B) (hc : w.cell? p = some v) : w1.cell? p = some v := by
  have hlt := World.block_lt_of_cell? _ _ hc
  rw [grown_cell hg (p := p) hlt (fun e => by have := hr _ e.symm; omega)]; exact hc
theorem cell_two {w : World} {h : Nat} {u v : Value} {t : TypeId} (hh : h = w.heap.size) : (w.alloc (.cells #[u, v] t)).cell? ⟨h, 0, none⟩ = some u ∧ (w.alloc (.cells #[u, v] t)).cell? ⟨h, 1, none⟩ = some v := by subst hh; simp
theorem TL.trow {w : World} {B g n cap : Nat} {l : List (Value × List Int)} (h : TL w B (.slice (some ⟨g, 0, none⟩) n cap) (l.map (·.1))) (hl : 0 < l.length) : n = l.length ∧ TRow w g l.length (fun i => (l.getD i (.slice none 0 0, [])).1) := by
  rcases h.row with ⟨h1, h2⟩ | ⟨g', cap', h1, _, _, h4⟩
  · simp at h2; subst h2; simp at hl
  · simp only [Value.slice.injEq, Option.some.injEq, Addr.mk.injEq, List.length_map, and_true] at h1
    obtain ⟨rfl, rfl, rfl⟩ := h1
    refine ⟨rfl, ?_⟩
    rw [List.length_map] at h4
    obtain ⟨cur, c1, c2⟩ := h4
    refine ⟨cur, c1, fun i hi => ?_⟩
    rw [c2 i hi]
    simp [List.getD_eq_getElem?_getD, List.getElem?_eq_getElem hi]
set_option maxHeartbeats 400000 in
theorem lnat_c (r gf cf n L : Nat) (w : World) (c0 : w.cell? ⟨r, 0, none⟩ = some (.slice (some ⟨gf, 0, none⟩) L cf)) (c2 : w.cell? ⟨r, 2, none⟩ = some (.int .i64 n)) (hn : n ≤ cf) :
    Calls Tryd.prog 27 #[.pointer (some ⟨r, 0, none⟩)] w fun e w' => e = .returned (.slice (some ⟨gf, 0, none⟩) n cf) ∧ ∃ m, w' = w.drewN m := by
  have h1 : (0 : Int) ≤ (n : Int) := by omega
  have h2 : (n : Int) ≤ (cf : Int) := by omega
  go_enter Tryd.func27, Tryd.ntmps27
  go_wp2
  go_quiet (fail)
  go_wp2
  go_ret
  exact ⟨rfl, nq, rfl⟩
theorem keptG (w : World) (b : LB) (xs : List Int) (h : b.is w xs) (hm : xs.length ≤ 2000000) :
    Calls Tryd.prog 39 #[.pointer (some ⟨b.r, 0, none⟩)] w fun e w' => e = .returned (.bool true) ∧ Below w.heap.size w w' := by
  refine (kept_any w b.r b.gf b.cf b.gw b.cw b.n _ _ h (by rw [length_lendL]; omega) rfl).mono ?_
  rintro e w' ⟨rfl, m, rfl⟩
  exact ⟨rfl, belN (Below.refl _ _) m⟩
theorem LB.own {w : World} {b : LB} {xs : List Int} (h : b.is w xs) (hn : b.n = xs.length) {B : Nat} (hB : B ≤ b.gf) : OwnV w B (.slice (some ⟨b.gf, 0, none⟩) b.n b.cf) xs := by
  have := h.rf.take xs.length
  have e : (lendL xs).take xs.length = xs := by unfold lendL; rw [List.take_append_of_le_length (Nat.le_refl _), List.take_length]
  rw [e] at this
  have := this.own hB
  rwa [← hn] at this

end Go.Proofs.YtjlmboakeigmpaaDoor

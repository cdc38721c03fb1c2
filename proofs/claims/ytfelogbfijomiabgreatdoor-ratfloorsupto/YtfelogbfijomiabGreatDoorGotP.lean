import Derived.Test.YtfelogbfijomiabGreatDoorRow
namespace Go.Proofs.YtfelogbfijomiabGreatDoor
open Go.RowKit

/-- In the one form: no nought at the end. -/
def NF (xs : List Int) : Prop := AllW xs ∧ tlen xs = xs.length
theorem NF.trimL {xs : List Int} (h : AllW xs) : NF (trimL xs) := ⟨h.trim, by rw [tlen_trimL, length_trimL]⟩
theorem NF.nil : NF [] := ⟨AllW.nil, rfl⟩
theorem nf_unique {xs ys : List Int} (hx : NF xs) (hy : NF ys) (h : val xs = val ys) : xs = ys := by
  have h1 := tlen_mono hx.1 hy.1 (by omega)
  have h2 := tlen_mono hy.1 hx.1 (by omega)
  have hl : xs.length = ys.length := by have := hx.2; have := hy.2; omega
  have hc := cmpL_zero hx.1 hy.1 h
  unfold cmpL at hc
  rw [if_pos (by omega)] at hc
  have key : ∀ k, cmpTo xs ys k = 0 → ∀ i, i < k → lm xs i = lm ys i := by
    intro k
    induction k with
    | zero => intro _ i hi; omega
    | succ k ih =>
      intro hk i hi
      by_cases e : lm xs k = lm ys k
      · rw [cmpTo_eq e] at hk
        rcases Nat.lt_or_ge i k with h3 | h3
        · exact ih hk i h3
        · obtain rfl : i = k := by omega
          exact e
      · rw [cmpTo_ne e] at hk
        unfold ordI at hk
        split at hk <;> omega
  apply List.ext_getElem hl
  intro i h3 h4
  have := key (tlen xs) hc i (by rw [hx.2]; exact h3)
  have e1 := lm_lt h3
  have e2 := lm_lt h4
  rw [List.getElem?_eq_getElem h3] at e1
  rw [List.getElem?_eq_getElem h4] at e2
  rw [this] at e1
  rw [Option.some.injEq] at e1 e2
  rw [e1, e2]

/-- The slice tells the number x in the one form, S limbs at the most, in memory of its own from block B on. -/
def Got (w : World) (B : Nat) (v : Value) (x : Int) (S : Nat) : Prop := ∃ xs, OwnV w B v xs ∧ NF xs ∧ val xs = x ∧ xs.length ≤ S
theorem Got.below {w w' : World} {B : Nat} {v : Value} {x : Int} {S : Nat} (h : Got w B v x S) (hb : Below w.heap.size w w') : Got w' B v x S := by
  obtain ⟨xs, h1, h2⟩ := h; exact ⟨xs, h1.below hb, h2⟩
theorem Got.mono {w : World} {B B' : Nat} {v : Value} {x : Int} {S : Nat} (h : Got w B v x S) (hB : B' ≤ B) : Got w B' v x S := by
  obtain ⟨xs, h1, h2⟩ := h; exact ⟨xs, h1.mono hB, h2⟩
theorem Got.le {w : World} {B : Nat} {v : Value} {x : Int} {S S' : Nat} (h : Got w B v x S) (hS : S ≤ S') : Got w B v x S' := by
  obtain ⟨xs, h1, h2, h3, h4⟩ := h; exact ⟨xs, h1, h2, h3, by omega⟩
theorem Got.nil (w : World) (B : Nat) : Got w B (.slice none 0 0) 0 0 := ⟨[], OwnV.nil _ _, NF.nil, rfl, Nat.le_refl _⟩
theorem Got.form {w : World} {B : Nat} {v : Value} {x : Int} {S : Nat} (h : Got w B v x S) : ∃ a n cap, v = .slice a n cap := by
  obtain ⟨xs, h1, _⟩ := h; obtain ⟨a, cap, e⟩ := h1.slice; exact ⟨a, _, cap, e⟩
theorem Got.num {w : World} {B : Nat} {a : Option Addr} {n cap : Nat} {x : Int} {S : Nat} (h : Got w B (.slice a n cap) x S) : Num w a n cap x S := by
  obtain ⟨xs, h1, h2, h3, h4⟩ := h
  obtain ⟨r1, r2, r3⟩ := h1.reads
  exact ⟨xs, r1, r2, r3, h2.1, h3, by omega⟩
theorem Got.lt {w : World} {B : Nat} {v : Value} {x : Int} {S : Nat} (h : Got w B v x S) : ∀ k, v.ownBlock = some k → B ≤ k ∧ k < w.heap.size := by
  obtain ⟨xs, h1, _⟩ := h; exact h1.lt
theorem got_of_blk {w : World} {g B : Nat} {us : List Int} (h : Blk w g us) (hu : AllW us) (hB : B ≤ g) (cap : Nat) (hc : cap = us.length) {S : Nat} (hS : us.length ≤ S) (hm : us.length ≤ 1000000000000) : Got w B (.slice (some ⟨g, 0, none⟩) (tlen us) cap) (val us) S := by
  subst hc
  have hle : tlen us ≤ us.length := tl_le _ _
  have h1 := h.row (tlen us) (by unfold maxLen; omega)
  have h2 := h1.own hB
  have e : (us.take (tlen us)).length = tlen us := by rw [List.length_take]; omega
  rw [e] at h2
  exact ⟨trimL us, h2, NF.trimL hu, val_trimL us, by rw [length_trimL]; omega⟩
theorem got_eq {w w' : World} {B B' : Nat} {v u : Value} {x y : Int} {S R : Nat} (h : Got w B v x S) (k : Got w' B' u y R) (e : x = y) : ∃ xs, OwnV w B v xs ∧ OwnV w' B' u xs ∧ xs.length ≤ S := by
  obtain ⟨xs, h1, h2, h3, h4⟩ := h
  obtain ⟨ys, k1, k2, k3, k4⟩ := k
  obtain rfl := nf_unique h2 k2 (by omega)
  exact ⟨xs, h1, k1, h4⟩
end Go.Proofs.YtfelogbfijomiabGreatDoor

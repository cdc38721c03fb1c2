import Derived.Test.YtkbbdfflodiddabDoorDvsC
namespace Go.Proofs.YtkbbdfflodiddabDoor
open Go.RowKit

theorem Num.upto {w : World} {a : Option Addr} {n cap : Nat} {x : Int} {S R : Nat} (h : Num w a n cap x S) (hS : S ≤ R) : Num w a n cap x R := by
  obtain ⟨xs, h1, h2, h3, h4, h5, h6⟩ := h
  exact ⟨xs, h1, h2, h3, h4, h5, by omega⟩
theorem Got.grownRow {w w' : World} {B : Nat} {v : Value} {x : Int} {S : Nat} (h : Got w B v x S) {blk : Obj} {B' : Nat} {e : TypeId} {lv : Value} {n : Nat} {ys : List Value} (k : w.ownsRow B' e 1 lv n ys) (hne : (43 : TypeId) ≠ e) (hg : (w.alloc blk).grownBy w' lv.ownBlock) : Got w' B v x S := by
  obtain ⟨xs, h1, h2⟩ := h
  exact ⟨xs, World.ownsRow.kept (h1.alloc blk) hg (rowOr (row_ne h1 k hne)), h2⟩
theorem grown_bel {w w' : World} {B : Nat} {blk : Obj} {e : TypeId} {lv : Value} {n : Nat} {ys : List Value} (k : w.ownsRow B e 1 lv n ys) (hB : B ≤ w.heap.size) (hg : (w.alloc blk).grownBy w' lv.ownBlock) : Below B w w' :=
  (((Below.refl w.heap.size w).alloc (Nat.le_refl _) blk).mono hB).trans (grown_below hg (by simp; omega) fun q hq => (World.ownsRow.lt k q hq).1)
theorem Loans.nil (w : World) (B : Nat) (X : Nat → List Int) (R GF CF GW CW : Nat → Nat) : Loans w B 0 0 0 X R GF CF GW CW (.slice none 0 0) (.slice none 0 0) :=
  ⟨PL.nil _ _, TL.nil _ _, fun i hi => by omega, fun i hi => by omega, fun i hi => by omega, fun i hi => by omega, fun i j hi hj => by omega⟩
theorem got_new (w : World) {B : Nat} (hB : B ≤ w.heap.size) (us : List Int) (hu : NF us) (hl : us.length ≤ 1) : Got (w.alloc (.cells (us.map (Value.int .u64)).toArray 43)) B (.slice (some ⟨w.heap.size, 0, none⟩) us.length us.length) (val us) us.length := by
  have h := (blk_new (w := w) us).row us.length (by unfold maxLen; omega)
  rw [List.take_length] at h
  exact ⟨us, h.own hB, hu, rfl, Nat.le_refl _⟩
/-- The loans, once the mark lies behind the numbers. -/
structure Held (w : World) (B m : Nat) (X : Nat → List Int) (R GF CF GW CW : Nat → Nat) (lvL : Value) (gO cO gM : Nat) : Prop where
  pl : PL w B lvL ((List.range m).map (ptrV R))
  tl : TL w B (.slice (some ⟨gO, 0, none⟩) (m + 1) cO) ((List.range m).map (ownVal X GF CF) ++ [.slice (some ⟨gM, 0, none⟩) 1 1])
  ln : ∀ i, i < m → Lnt w (R i) (GF i) (CF i) (GW i) (CW i) (X i).length (lendL (X i)) (lendL (X i))
  lo : ∀ i, i < m → B ≤ R i
  inc : ∀ i j, i < j → j < m → GF i < R j
  mark : Got w B (.slice (some ⟨gM, 0, none⟩) 1 1) 77 1
theorem Held.below {w w' : World} {B m : Nat} {X : Nat → List Int} {R GF CF GW CW : Nat → Nat} {lvL : Value} {gO cO gM : Nat} (h : Held w B m X R GF CF GW CW lvL gO cO gM) (hb : Below w.heap.size w w') : Held w' B m X R GF CF GW CW lvL gO cO gM :=
  { h with pl := h.pl.below hb, tl := h.tl.below hb, ln := fun i hi => (h.ln i hi).below hb, mark := h.mark.below hb }
theorem Loans.held {w w' : World} {B m g cap gM : Nat} {X : Nat → List Int} {R GF CF GW CW : Nat → Nat} {lvL lvO : Value} {blk : Obj} (h : Loans w B m m m X R GF CF GW CW lvL lvO) (hM : Got w B (.slice (some ⟨gM, 0, none⟩) 1 1) 77 1) (hp : TL w' B (.slice (some ⟨g, 0, none⟩) (m + 1) cap) ((List.range m).map (ownVal X GF CF) ++ [.slice (some ⟨gM, 0, none⟩) 1 1])) (hg : (w.alloc blk).grownBy w' lvO.ownBlock) :
    Held w' B m X R GF CF GW CW lvL g cap gM := by
  refine ⟨?_, hp, fun i hi => ?_, h.lo, h.inc, hM.grownRow h.tl (by decide) hg⟩
  · exact World.ownsRow.kept (h.pl.alloc blk) hg (rowOr (row_ne h.pl h.tl (fun e => nat_nePtr e.symm)))
  · have hl := h.ln i hi
    exact hl.grown hg (h.no i hi) (hl.rf.ne_row h.tl nat_ne64) (hl.rw.ne_row h.tl nat_ne64)
theorem Held.cells {w : World} {B m : Nat} {X : Nat → List Int} {R GF CF GW CW : Nat → Nat} {lvL : Value} {gO cO gM : Nat} (h : Held w B m X R GF CF GW CW lvL gO cO gM) : m + 1 ≤ cO ∧ B ≤ gO ∧ gO < w.heap.size ∧ (∀ i, i < m → w.cell? ⟨gO, i, none⟩ = some (.slice (some ⟨GF i, 0, none⟩) (X i).length (CF i))) ∧ w.cell? ⟨gO, m, none⟩ = some (.slice (some ⟨gM, 0, none⟩) 1 1) := by
  have hlen : ((List.range m).map (ownVal X GF CF) ++ [Value.slice (some ⟨gM, 0, none⟩) 1 1]).length = m + 1 := by simp
  rcases h.tl.2 with ⟨h1, _⟩ | ⟨g, cap, cur, h1, h2, h3, h4, h5, h6, h7⟩
  · simp at h1
  · simp only [Value.slice.injEq, Option.some.injEq, Addr.mk.injEq, and_true] at h1
    obtain ⟨rfl, h1a, rfl⟩ := h1
    rw [hlen] at h4 h7
    have hcell : ∀ i, w.cell? ⟨gO, i, none⟩ = cur[i]? := fun i => by simp [World.cell?, h3]
    have hk : ∀ i, i < m + 1 → cur[i]? = ((List.range m).map (ownVal X GF CF) ++ [Value.slice (some ⟨gM, 0, none⟩) 1 1])[i]? := fun i hi => by
      have := congrArg (fun l => l[i]?) h7
      simp only [List.getElem?_take] at this
      rw [if_pos (by omega)] at this
      simpa using this
    refine ⟨h4, h2, (Array.getElem?_eq_some_iff.1 h3).1, fun i hi => ?_, ?_⟩
    · rw [hcell, hk i (by omega), List.getElem?_append_left (by simpa using hi)]
      simp [hi, ownVal]
    · rw [hcell, hk m (by omega), List.getElem?_append_right (by simp)]
      simp
end Go.Proofs.YtkbbdfflodiddabDoor

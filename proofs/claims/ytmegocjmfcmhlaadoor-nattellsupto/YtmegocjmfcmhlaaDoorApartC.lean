import Derived.Test.YtmegocjmfcmhlaaDoorApartB
namespace Go.Proofs.YtmegocjmfcmhlaaDoor
open Go.RowKit

/-- The i-th one made longer. -/
def ml (x : Nat → List Int) (j : Nat) (k : Nat) : List Int := mk j (x j).length ++ List.replicate k (900000000 + (j : Int))
theorem length_ml (x : Nat → List Int) (j k : Nat) : (ml x j k).length = (x j).length + k := by simp [ml, length_mk]
theorem ml_snoc (x : Nat → List Int) (j k : Nat) : ml x j k ++ [900000000 + (j : Int)] = ml x j (k + 1) := by
  unfold ml; rw [List.append_assoc, ← List.replicate_succ']
structure P2 (B gl m : Nat) (v : Nat → Value) (x : Nat → List Int) (lv : Value) (Y : Nat → Value) (i H : Nat) (wr : World) : Prop where
  T : TRow wr gl m v
  ov : ∀ j, j < m → OwnV wr B (v j) (mk j (x j).length)
  oY : ∀ j, j < i → OwnV wr B (Y j) (ml x j 20)
  tl : TOwn wr B lv i Y
  d1 : ∀ j, j < i → ∀ j', j' < m → i ≤ j' → ∀ g, (Y j).ownBlock = some g → (v j').ownBlock ≠ some g
  nl : ∀ g, lv.ownBlock = some g → g ≠ gl
  hv : ∀ j, j < m → ∀ g, (v j).ownBlock = some g → g < H
  hY : ∀ j, j < i → ∀ g, (Y j).ownBlock = some g → g < H
  hH : H ≤ wr.heap.size
  hB : B ≤ wr.heap.size
/-- The one that is being made longer. -/
def YS (B : Nat) (vi y : Value) (n k : Nat) (us : List Int) (H : Nat) (wr : World) : Prop :=
  OwnV wr B y us ∧ ((k = 0 ∧ y = vi) ∨ (∃ g cap, vi = .slice (some ⟨g, 0, none⟩) n cap ∧ y = .slice (some ⟨g, 0, none⟩) (n + k) cap) ∨ (∃ g cap, y = .slice (some ⟨g, 0, none⟩) (n + k) cap ∧ H ≤ g))

theorem p2_inner {B gl m : Nat} {v : Nat → Value} {x : Nat → List Int} {lv : Value} {Y : Nat → Value} {i H k : Nat} {wr w' : World} {y : Value} {blk : Obj} {g cap : Nat} (dis : ∀ i j, i < m → j < m → i ≠ j → ∀ g, (v i).ownBlock = some g → (v j).ownBlock ≠ some g)
    (hp : P2 B gl m v x lv Y i H wr) (hi : i < m) (hy : YS B (v i) y (x i).length k (ml x i k) H wr)
    (hown : OwnV w' B (.slice (some ⟨g, 0, none⟩) ((x i).length + k + 1) cap) (ml x i k ++ [900000000 + (i : Int)])) (hl : Lies (wr.alloc blk) w' y g cap) :
    P2 B gl m v x lv Y i H w' ∧ YS B (v i) (.slice (some ⟨g, 0, none⟩) ((x i).length + k + 1) cap) (x i).length (k + 1) (ml x i (k + 1)) H w' ∧ Below B wr w' := by
  rw [ml_snoc] at hown
  have hszA : (wr.alloc blk).heap.size = wr.heap.size + 1 := by simp
  have hall : Below wr.heap.size wr (wr.alloc blk) := (Below.refl _ _).alloc (Nat.le_refl _) _
  rcases hl with ⟨n', hyv, hg⟩ | ⟨hge, hg⟩
  · -- in place
    have hgB := (hy.1.lt g (by rw [hyv]; rfl))
    have hkeep : ∀ {u : Value} {us : List Int}, OwnV wr B u us → u.ownBlock ≠ some g → OwnV w' B u us := fun ho hne => (ho.alloc blk).grown hg (.inr hne)
    have hgl : gl ≠ g := fun e => hp.T.ne hy.1 (by rw [hyv, e]; rfl)
    have hsame : ∀ j, j < m → (v j).ownBlock = some g → j = i ∧ v i = .slice (some ⟨g, 0, none⟩) (x i).length cap := by
      intro j hj hjg
      rcases hy.2 with ⟨_, e⟩ | ⟨g2, cap2, e1, e2⟩ | ⟨g2, cap2, e1, e2⟩
      · have hii : (v i).ownBlock = some g := by rw [← e, hyv]; rfl
        have hji : j = i := by
          rcases Nat.decEq j i with h | h
          · exact absurd hii (dis j i hj hi h g hjg)
          · exact h
        refine ⟨hji, ?_⟩
        have hlen : n' = (x i).length := by
          have ho := hp.ov i hi
          rw [← e, hyv] at ho
          have := (ho.reads).1
          rw [length_mk] at this
          exact this
        rw [← e, hyv, hlen]
      · rw [hyv] at e2
        simp only [Value.slice.injEq, Option.some.injEq, Addr.mk.injEq] at e2
        obtain ⟨⟨rfl, _, _⟩, _, rfl⟩ := e2
        have hii : (v i).ownBlock = some g := by rw [e1]; rfl
        have hji : j = i := by
          rcases Nat.decEq j i with h | h
          · exact absurd hii (dis j i hj hi h g hjg)
          · exact h
        exact ⟨hji, e1⟩
      · rw [hyv] at e1
        simp only [Value.slice.injEq, Option.some.injEq, Addr.mk.injEq] at e1
        obtain ⟨⟨rfl, _, _⟩, _, _⟩ := e1
        have := hp.hv j hj g hjg
        omega
    refine ⟨⟨hp.T.of_block ?_, fun j hj => ?_, fun j hj => ?_, ?_, hp.d1, hp.nl, hp.hv, hp.hY, ?_, ?_⟩, ⟨hown, ?_⟩, ?_⟩
    · rw [hg.block gl (by have := hp.T.lt; omega) (by simp; exact hgl), Below.heap_alloc _ _ _ hp.T.lt]
    · by_cases e : (v j).ownBlock = some g
      · obtain ⟨rfl, hvi⟩ := hsame j hj e
        rcases hown.row with ⟨e2, _⟩ | ⟨g2, cap2, e2, hB2, hr2⟩
        · cases e2
        · simp only [Value.slice.injEq, Option.some.injEq, Addr.mk.injEq] at e2
          obtain ⟨⟨rfl, _, _⟩, _, rfl⟩ := e2
          have ht := (hr2.take (x j).length).own hB2
          have e3 : (ml x j (k + 1)).take (x j).length = mk j (x j).length := by
            unfold ml
            rw [List.take_append_of_le_length (by rw [length_mk]; exact Nat.le_refl _), List.take_of_length_le (by rw [length_mk]; exact Nat.le_refl _)]
          rw [e3, length_mk] at ht
          rw [hvi]; exact ht
      · exact hkeep (hp.ov j hj) e
    · refine hkeep (hp.oY j hj) (fun e => ?_)
      rcases hy.2 with ⟨_, e1⟩ | ⟨g2, cap2, e1, e2⟩ | ⟨g2, cap2, e1, e2⟩
      · exact hp.d1 j hj i hi (Nat.le_refl _) g e (by rw [← e1, hyv]; rfl)
      · rw [hyv] at e2
        simp only [Value.slice.injEq, Option.some.injEq, Addr.mk.injEq] at e2
        obtain ⟨⟨rfl, _, _⟩, _, _⟩ := e2
        exact hp.d1 j hj i hi (Nat.le_refl _) g e (by rw [e1]; rfl)
      · rw [hyv] at e1
        simp only [Value.slice.injEq, Option.some.injEq, Addr.mk.injEq] at e1
        obtain ⟨⟨rfl, _, _⟩, _, _⟩ := e1
        have := hp.hY j hj g e
        omega
    · have hne := hp.tl.ne hy.1
      refine World.ownsRow.kept (World.ownsRow.alloc hp.tl blk) hg ?_
      rw [hyv] at hne
      rcases hne with hne | hne
      · simp [Value.ownBlock] at hne
      · exact .inr (fun e => hne e.symm)
    · have := hg.size; have := hp.hH; omega
    · have := hg.size; have := hp.hB; omega
    · rcases hy.2 with ⟨hk0, e⟩ | ⟨g2, cap2, e1, e2⟩ | ⟨g2, cap2, e1, e2⟩
      · have hii : (v i).ownBlock = some g := by rw [← e, hyv]; rfl
        obtain ⟨_, hvi⟩ := hsame i hi hii
        exact .inr (.inl ⟨g, cap, hvi, rfl⟩)
      · rw [hyv] at e2
        simp only [Value.slice.injEq, Option.some.injEq, Addr.mk.injEq] at e2
        obtain ⟨⟨rfl, _, _⟩, _, rfl⟩ := e2
        exact .inr (.inl ⟨g, cap, e1, rfl⟩)
      · rw [hyv] at e1
        simp only [Value.slice.injEq, Option.some.injEq, Addr.mk.injEq] at e1
        obtain ⟨⟨rfl, _, _⟩, _, _⟩ := e1
        exact .inr (.inr ⟨g, cap, rfl, e2⟩)
    · exact (hall.mono hp.hB).trans (grown_below hg (by have := hp.hB; omega) (fun q hq => by simp only [Option.some.injEq] at hq; omega))
  · -- new memory
    have hkeep : ∀ {u : Value} {us : List Int}, OwnV wr B u us → OwnV w' B u us := fun {u us} ho => by
      refine (ho.alloc blk).grown hg ?_
      cases e : u.ownBlock with
      | none => exact .inl rfl
      | some q => exact .inr (by simp)
    refine ⟨⟨hp.T.of_block ?_, fun j hj => hkeep (hp.ov j hj), fun j hj => hkeep (hp.oY j hj), ?_, hp.d1, hp.nl, hp.hv, hp.hY, ?_, ?_⟩, ⟨hown, .inr (.inr ⟨g, cap, rfl, by have := hp.hH; omega⟩)⟩, ?_⟩
    · rw [hg.block gl (by have := hp.T.lt; omega) (by simp), Below.heap_alloc _ _ _ hp.T.lt]
    · refine World.ownsRow.kept (World.ownsRow.alloc hp.tl blk) hg ?_
      cases e : lv.ownBlock with
      | none => exact .inl rfl
      | some q => exact .inr (by simp)
    · have := hg.size; have := hp.hH; omega
    · have := hg.size; have := hp.hB; omega
    · exact (hall.mono hp.hB).trans (grown_below hg (by have := hp.hB; omega) (fun q hq => by cases hq))

theorem p2_outer {B gl m : Nat} {v : Nat → Value} {x : Nat → List Int} {lv : Value} {Y : Nat → Value} {i H : Nat} {wr w' : World} {y : Value} {blk : Obj} {g cap : Nat} (dis : ∀ i j, i < m → j < m → i ≠ j → ∀ g, (v i).ownBlock = some g → (v j).ownBlock ≠ some g)
    (hp : P2 B gl m v x lv Y i H wr) (hi : i < m) (hy : YS B (v i) y (x i).length 20 (ml x i 20) H wr)
    (hown : TOwn w' B (.slice (some ⟨g, 0, none⟩) (i + 1) cap) (i + 1) (fun j => if j = i then y else Y j)) (hg : (wr.alloc blk).grownBy w' lv.ownBlock) (hat : lv.ownBlock = some g ∨ g = wr.heap.size + 1) :
    P2 B gl m v x (.slice (some ⟨g, 0, none⟩) (i + 1) cap) (fun j => if j = i then y else Y j) (i + 1) w'.heap.size w' ∧ Below B wr w' := by
  have hszA : (wr.alloc blk).heap.size = wr.heap.size + 1 := by simp
  have hall : Below wr.heap.size wr (wr.alloc blk) := (Below.refl _ _).alloc (Nat.le_refl _) _
  have hkeep : ∀ {u : Value} {us : List Int}, OwnV wr B u us → OwnV w' B u us := fun ho => (ho.alloc blk).grown hg (hp.tl.ne ho)
  have hrow : ∀ q, lv.ownBlock = some q → B ≤ q := fun q hq => (World.ownsRow.lt hp.tl q hq).1
  refine ⟨⟨hp.T.of_block ?_, fun j hj => hkeep (hp.ov j hj), fun j hj => ?_, hown, fun j hj j' hj' hle q hq => ?_, fun q hq => ?_, fun j hj q hq => ?_, fun j hj q hq => ?_, Nat.le_refl _, by have := hg.size; have := hp.hB; omega⟩, ?_⟩
  · rw [hg.block gl (by have := hp.T.lt; omega) (fun e => hp.nl gl e.symm rfl), Below.heap_alloc _ _ _ hp.T.lt]
  · by_cases e : j = i
    · subst e; simp only [if_true]; exact hkeep hy.1
    · simp only [if_neg e]; exact hkeep (hp.oY j (by omega))
  · by_cases e : j = i
    · subst e
      simp only [if_true] at hq
      rcases hy.2 with ⟨hk, _⟩ | ⟨g2, cap2, e1, e2⟩ | ⟨g2, cap2, e1, e2⟩
      · omega
      · rw [e2] at hq
        simp only [Value.ownBlock, Option.some.injEq] at hq
        subst hq
        exact dis j j' hi hj' (by omega) g2 (by rw [e1]; rfl)
      · rw [e1] at hq
        simp only [Value.ownBlock, Option.some.injEq] at hq
        subst hq
        intro e3; have := hp.hv j' hj' g2 e3; omega
    · simp only [if_neg e] at hq
      exact hp.d1 j (by omega) j' hj' (by omega) q hq
  · simp only [Value.ownBlock, Option.some.injEq] at hq
    subst hq
    rcases hat with e | e
    · exact hp.nl g e
    · have := hp.T.lt; omega
  · have := (hp.ov j hj).lt q hq; have := hg.size; omega
  · by_cases e : j = i
    · subst e; simp only [if_true] at hq
      have := hy.1.lt q hq; have := hg.size; omega
    · simp only [if_neg e] at hq
      have := (hp.oY j (by omega)).lt q hq; have := hg.size; omega
  · exact (hall.mono hp.hB).trans (grown_below hg (by have := hp.hB; omega) hrow)
end Go.Proofs.YtmegocjmfcmhlaaDoor

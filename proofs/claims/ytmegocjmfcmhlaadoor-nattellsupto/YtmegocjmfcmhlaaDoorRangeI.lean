import Derived.Test.YtmegocjmfcmhlaaDoorDigAll
namespace Go.Proofs.YtmegocjmfcmhlaaDoor
open Go.RowKit Go.Shelf

/-- What an inner range owes the outer one: words that lay when it began lie still. -/
theorem ownW_kept {β : Type} {B : Nat} {w : World} (hB : w.heap.size ≤ B) : OwnW B (fun (_ : β) W => KeptW w W) :=
  fun _ _ _ hs ht => ⟨Nat.le_trans hs.size ht.size, fun k o hk ho => ht.block k o (hs.same k o hk ho) (.inl (by have := (Array.getElem?_eq_some_iff.1 hk).1; omega))⟩
/-- .. and so does what is no cells. -/
theorem ownW_keeps {β : Type} {B C : Nat} {w : World} (hB : w.heap.size ≤ B) : OwnW B (fun (_ : β) W => KeepsFrom C w W) :=
  fun _ _ _ hs ht => ⟨Nat.le_trans hs.size ht.size, fun k o hC hk ho => ht.block k o (hs.same k o hC hk ho) (.inl (by have := (Array.getElem?_eq_some_iff.1 hk).1; omega))⟩

section inner
variable {F : Fence} {n : Nat} {P : Program} {g : Operand} {ps : Array Tmp} {assign body : Code} {a : Act} {gf : Nat} {lb : Array Value} {S Sp : List Int → Prop} {N : Nat} {w0 : World}

set_option maxHeartbeats 100000 in
/-- A range over an iterator with words of its own, within a round of loop l₀. -/
theorem range_in {Q : Exit → Act → World → Prop} {w : World} {l₀ : Nat} {r₀ : Loop} (hro : F.round = some l₀) (hl₀ : w.heap[l₀]? = some (.loop r₀)) (hd : F.depth = none) (hg : a.eval g = .func (.func gf) #[] lb) (hFg : F.fn gf) (eg : ∀ args w, (callFunc gf args).run P w = .ok (.enter gf args) w)
    (hseq : SeqW F P gf lb S Sp N w0) (hw : Below w0.heap.size w0 w) (hps : ps.size = 1)
    (I : List Int → World → Prop) (Ix : Code → List Int → World → Prop) (hI : OwnW w.heap.size I) (hIx : ∀ c, OwnW w.heap.size (Ix c)) (h0 : I [] w) (a₁ : Int → Act)
    (hassign : ∀ (l m : Nat) (x : Int) (W : World) (K : Act → World → Prop), K (a₁ x) W →
      assign.wpIn (F.inRound l) m P (Exit.then K (fun _ _ _ => False)) { tmps := (ps.zip #[Value.int .i64 x]).foldl (fun t (p, v) => t.setIfInBounds p v) a.tmps, defers := [] } W)
    (hbody : ∀ (l m : Nat) (pre : List Int) (x : Int) (W : World), (∃ r, W.heap[l]? = some (.loop r)) → w.heap.size ≤ l → I pre W → 0 ≤ x → x ≤ 9 → pre.length < N → body.wpIn (F.inRound l) m P (Left w.heap.size I Ix (pre ++ [x]) W) (a₁ x) W)
    (hdone : ∀ (xs : List Int) (W : World), S xs → I xs W → Q .normal a W)
    (hstop : ∀ (c : Code) (pre : List Int) (W : World), Sp pre → Ix c pre W → c.wpIn F n P Q a W) :
    (Code.rangeFunc g ps assign body).wpIn F n P Q a w := by
  refine wpIn_rangeFunc fun fn hfn => ?_
  obtain ⟨W1, hW1⟩ : ∃ W1, w.alloc (recd fn a.tmps ps assign body r₀.defers .ready none) = W1 := ⟨_, rfl⟩
  have hWl : W1.heap[w.heap.size]? = some (recd fn a.tmps ps assign body r₀.defers .ready none) := by
    rw [← hW1]; exact World.alloc_heap_new w _
  have hWI : I [] W1 := by rw [← hW1]; exact hI.alloc _ h0
  have hWb : Below w0.heap.size w0 W1 := by
    rw [← hW1]; exact hw.trans (((Below.refl _ w).alloc (Nat.le_refl _) _).mono hw.size)
  have hcall := rounds (a := a) (n := n - 1) (B := w.heap.size) (I := I) (Ix := Ix) (a₁ := a₁) hseq hfn hps
    hWb (Nat.le_refl _) hWl hI hIx hWI (hassign _)
    (fun m pre x W hr hi x0 x9 hlen => hbody _ m pre x W hr (Nat.le_refl _) hi x0 x9 hlen)
  refine ⟨w.heap.size, [], W1, { target := .fn (.func gf) lb, args := #[.func (.yield w.heap.size) #[] #[]] }, W1, gf, #[.func (.yield w.heap.size) #[] #[]] ++ lb, W1, ?_, ?_, ?_, ?_, ?_, ?_⟩
  · rw [hro, ← hW1]; exact run_enterLoop_inner hl₀ _ _ _ _ _
  · simp only [resolve, hg]
    simp [go_sem]
  · intro f' hf'
    simp [Target.leads] at hf'; subst hf'; exact hFg
  · simp [invoke, go_sem, eg]
  · intro h
    rw [hd] at h; cases h
  refine hcall.mono ?_
  rintro e W2 ⟨⟨v, rfl⟩, ⟨xs, hS, hi, hl⟩ | ⟨c, pre, hS, hi, hl⟩⟩
  · have h1 := run_endLoop (P := P) hl (by simp)
    exact ⟨none, _, h1, hdone xs _ hS (hI.putObj _ hi (Nat.le_refl _) hl rfl)⟩
  · have h1 := run_endLoop (P := P) hl (by simp)
    exact ⟨some c, _, h1, hstop c pre _ hS ((hIx c).putObj _ hi (Nat.le_refl _) hl rfl)⟩
end inner
end Go.Proofs.YtmegocjmfcmhlaaDoor

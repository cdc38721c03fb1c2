import Derived.Test.YtmegocjmfcmhlaaDoorRangeI
import Derived.Test.YtmegocjmfcmhlaaDoorRefX
import Derived.Test.YtmegocjmfcmhlaaDoorLndA
import Derived.Test.YtmegocjmfcmhlaaDoorLent
import Derived.Test.YtmegocjmfcmhlaaDoorAwake
namespace Go.Proofs.YtmegocjmfcmhlaaDoor
open Go.RowKit Go.Shelf

theorem pre_next {D pre : List Int} {x : Int} (h : pre <+: D) : pre ++ [x] <+: D ↔ pre.length < D.length ∧ D.getD pre.length 0 = x := by
  obtain ⟨t, rfl⟩ := h
  rw [List.prefix_append_right_inj]
  cases t with
  | nil => simp
  | cons y t => simp [eq_comm]
theorem pre_all {D pre : List Int} (h : pre <+: D) (hl : pre.length = D.length) : pre = D := h.eq_of_length hl
theorem keeps_below {C : Nat} {W W' : World} (h : Below W.heap.size W W') : KeepsFrom C W W' := ⟨h.size, fun k _ _ hk _ => (h.block k (Array.getElem?_eq_some_iff.1 hk).1).trans hk⟩
theorem box_bel {W W' : World} {B : Nat} {t : TypeId} {v : Value} (h : Boxed W B t v) (hb : Below W.heap.size W W') : Boxed W' B t v := (hb.block _ h.lt).trans h
theorem keptW_box {W : World} {B : Nat} {t : TypeId} {v : Value} (hv : Boxed W B t v) (ht : t ≠ 37) (v' : Value) : KeptW W (W.setCell ⟨B, 0, none⟩ v') :=
  KeptW.grown (grownBy_setCell' W B v') fun j o ej hj => by
    cases ej
    rw [show W.heap[B]? = _ from hv] at hj; cases hj; simpa [isWd] using ht
theorem ownW_box {β : Type} {B D : Nat} {t : TypeId} (f : β → Value) (hB : B < D) : OwnW D (fun s W => Boxed W B t (f s)) := fun _ _ _ h ht => ht.block B _ h (.inl hB)
/-- A range's count so far: as many as were told, and these the first ones. -/
def Told (w : World) (K : Nat) (D : List Int) (pre : List Int) (W : World) : Prop := Boxed W K 3 (.int .i64 pre.length) ∧ Below K w W ∧ pre <+: D
theorem Told.own {w : World} {K : Nat} {D : List Int} {C : Nat} (hK : K < C) (hw : K ≤ w.heap.size) : OwnW C (Told w K D) :=
  fun s W W' h ht => ⟨ownW_box (fun pre : List Int => Value.int .i64 pre.length) hK s W W' h.1 ht, ownW_below (β := List Int) (Nat.le_of_lt hK) hw s W W' h.2.1 ht, h.2.2⟩
/-- How a range is left: told otherwise than due (it never is), or by way e with what then stands. -/
def Gone (w : World) (K : Nat) (D : List Int) (e : Code) (G : List Int → Prop) (c : Code) (pre : List Int) (W : World) : Prop := ¬ pre <+: D ∨ (c = e ∧ G pre ∧ Told w K D pre W)
theorem Gone.own {w : World} {K : Nat} {D : List Int} {e : Code} {G : List Int → Prop} {C : Nat} (hK : K < C) (hw : K ≤ w.heap.size) (c : Code) : OwnW C (Gone w K D e G c) :=
  fun s W W' h ht => h.imp id fun ⟨h1, h2, h3⟩ => ⟨h1, h2, Told.own hK hw s W W' h3 ht⟩
/-- The count goes up by one. -/
theorem Told.up {w W W' : World} {K : Nat} {D pre : List Int} {x : Int} {v : Value} (h : Told w K D pre W) (hx : pre ++ [x] <+: D) (hW : Below W.heap.size W W') (hv : v = .int .i64 (pre.length + 1)) :
    Told w K D (pre ++ [x]) (W'.setCell ⟨K, 0, none⟩ v) ∧ (∀ C, KeepsFrom C W (W'.setCell ⟨K, 0, none⟩ v)) ∧ KeptW W (W'.setCell ⟨K, 0, none⟩ v) := by
  subst hv
  have hb : Boxed W' K 3 (.int .i64 pre.length) := (hW.block _ h.1.lt).trans h.1
  have hlt := h.1.lt
  refine ⟨⟨?_, ?_, hx⟩, fun C => ?_, ?_⟩
  · have := hb.set (.int .i64 (pre.length + 1))
    simpa using this
  · exact (h.2.1.trans (hW.mono (Nat.le_of_lt hlt))).setCell (Nat.le_refl _) _
  · exact (keeps_below hW).trans ((KeepsOthers.setCell _ _ _).from C)
  · exact (KeptW.of_below hW).trans (keptW_box hb (by decide) _)
theorem rowCells {w : World} {B K : Nat} {oa : Option Addr} {oc : Nat} {D : List Int} (hD : OwnK 3 .i64 w B (.slice oa D.length oc) D) (hK : w.heap.size ≤ K) (hne : D ≠ []) :
    ∃ g cap, (Value.slice oa D.length oc = .slice (some ⟨g, 0, none⟩) D.length cap) ∧ ∀ i, i < D.length → g < K ∧ w.cell? ⟨g, i, none⟩ = some (.int .i64 (D.getD i 0)) := by
  rcases hD.row with ⟨_, h⟩ | ⟨g, cap, h1, h2, h3, h4, h5⟩
  · exact (hne h).elim
  · exact ⟨g, cap, h1, fun i hi => ⟨by omega, h5 i hi⟩⟩
/-- A mark is taken off: all else lies as it lay. -/
theorem mark_off {w W : World} {B D b b' n₀ : Nat} {t : TypeId} {v : Value} {o o1 o2 : Obj} (hB : Below n₀ w W) (hR : Boxed W B t v) (_hD : W.heap[D]? = some o) (h0 : n₀ ≤ D) (hne : D ≠ B) (hb : W.heap[b]? = some o1) (hb' : W.heap[b']? = some o2) (h1 : b ≠ D) (h2 : b' ≠ D) :
    Below n₀ w (W.putObj D (.deferred none)) ∧ Boxed (W.putObj D (.deferred none)) B t v ∧ (W.putObj D (.deferred none)).heap[b]? = some o1 ∧ (W.putObj D (.deferred none)).heap[b']? = some o2 :=
  ⟨⟨hB.os, hB.tape, hB.output, by simpa using hB.size, fun k hk => (World.putObj_heap_other (by omega)).trans (hB.block k hk)⟩, (World.putObj_heap_other (Ne.symm hne)).trans hR, (World.putObj_heap_other h1).trans hb, (World.putObj_heap_other h2).trans hb'⟩
section one
variable {F : Fence} {n : Nat} {P : Program} {g : Operand} {ps : Array Tmp} {assign body : Code} {a : Act} {gf : Nat} {lb : Array Value} {S Sp : List Int → Prop} {N : Nat} {w0 : World}
/-- A range in no other's round that ends in one way, whether it is left by e or told to its end. -/
theorem range_one {Q : Exit → Act → World → Prop} {w : World} (hro : F.round = none) (hd : F.depth = none) (hg : a.eval g = .func (.func gf) #[] lb) (hFg : F.fn gf) (eg : ∀ args w, (callFunc gf args).run P w = .ok (.enter gf args) w)
    (hseq : SeqW F P gf lb S Sp N w0) (hw : Below w0.heap.size w0 w) (hps : ps.size = 1)
    (I : List Int → World → Prop) (Ix : Code → List Int → World → Prop) (hI : OwnW w.heap.size I) (hIx : ∀ c, OwnW w.heap.size (Ix c)) (h0 : I [] w) (a₁ : Int → Act)
    (hassign : ∀ (l m : Nat) (x : Int) (W : World) (K : Act → World → Prop), K (a₁ x) W →
      assign.wpIn (F.inRound l) m P (Exit.then K (fun _ _ _ => False)) { tmps := (ps.zip #[Value.int .i64 x]).foldl (fun t (p, v) => t.setIfInBounds p v) a.tmps, defers := [] } W)
    (hbody : ∀ (l m : Nat) (pre : List Int) (x : Int) (W : World), (∃ r, W.heap[l]? = some (.loop r)) → w.heap.size ≤ l → I pre W → 0 ≤ x → x ≤ 9 → pre.length < N → body.wpIn (F.inRound l) m P (Left w.heap.size I Ix (pre ++ [x]) W) (a₁ x) W)
    (e : Nat) (G : List Int → World → Prop) (hQ : ∀ a W, Q .normal a W → Q (.exit e) a W) (hd1 : ∀ xs W, S xs → I xs W → G xs W) (hs1 : ∀ c pre W, Sp pre → Ix c pre W → c = .exit e ∧ G pre W)
    (hcont : ∀ (D : Nat) (xs : List Int) (W : World), w.heap.size ≤ D → G xs W → W.heap[D]? = some (.deferred (some [])) → Q .normal { a with defers := { target := .collected D, args := #[] } :: a.defers } W) :
    (Code.rangeFunc g ps assign body).wpIn F n P Q a w :=
  range_out hro hd hg hFg eg hseq hw hps I Ix hI hIx h0 a₁ hassign hbody (fun D xs W hD hS hi hK => hcont D xs W hD (hd1 xs W hS hi) hK)
    (fun D c pre W hD hS hi hK => by
      obtain ⟨rfl, h⟩ := hs1 c pre W hS hi
      have := hQ _ _ (hcont D pre W hD h hK)
      exact wpIn_exit this)
end one
end Go.Proofs.YtmegocjmfcmhlaaDoor

import Derived.Test.YtfelogbfijomiabGreatDoorSumAll
import Derived.RangeFuncNested
import Derived.RangeFuncBound
import Derived.RangeFuncCalls
import Derived.RangeFuncLeaves
import Derived.Shelf.Abstract
import Derived.Shelf.RegionOpen
import Derived.WalkKit
import Derived.OwnWalkIn
import Derived.TacticsInMore
import Derived.LoopNIn
import Derived.LoopIn
import Derived.Maps.AppendAt
namespace Go.Proofs.YtfelogbfijomiabGreatDoor
open Go.RowKit Go.Shelf

/-- A block of words (limbs). -/
def isWd : Obj → Bool
  | .cells _ t _ => t == 49
  | _ => false
/-- From one world to a later one: blocks are laid; of those that lay, only such are turned as p tells, from block B on. -/
structure Turns (p : Obj → Bool) (B : Nat) (W W' : World) : Prop where
  os : W'.os = W.os
  tape : W'.tape = W.tape
  output : W'.output = W.output
  size : W.heap.size ≤ W'.heap.size
  block : ∀ (k : Nat) (o : Obj), W.heap[k]? = some o → (k < B ∨ p o = false) → W'.heap[k]? = some o
theorem Turns.below {p : Obj → Bool} {B : Nat} {W W' : World} (h : Turns p B W W') {B' : Nat} (hB : B' ≤ B) (hs : B' ≤ W.heap.size) : Below B' W W' :=
  ⟨h.os, h.tape, h.output, h.size, fun k hk => by
    have : k < W.heap.size := by omega
    rw [h.block k _ (Array.getElem?_eq_getElem this) (.inl (by omega)), Array.getElem?_eq_getElem this]⟩
theorem Turns.of_below {p : Obj → Bool} {B : Nat} {W W' : World} (h : Below W.heap.size W W') : Turns p B W W' :=
  ⟨h.os, h.tape, h.output, h.size, fun k _ hk _ => (h.block k (Array.getElem?_eq_some_iff.1 hk).1).trans hk⟩
theorem Turns.of_off {p : Obj → Bool} {B g : Nat} {W W' : World} (h : Off g W W') (hg : B ≤ g) (hp : ∀ o, W.heap[g]? = some o → p o = true) : Turns p B W W' :=
  ⟨h.os, h.tape, h.output, by have := h.size; omega, fun k o hk hc => by
    by_cases e : k = g
    · subst e
      rcases hc with hc | hc
      · omega
      · rw [hp o hk] at hc; cases hc
    · exact (h.block k e).trans hk⟩
theorem Turns.imp {p q : Obj → Bool} {B B' : Nat} {W W' : World} (h : Turns p B W W') (hpq : ∀ o, p o = true → q o = true) (hB : B' ≤ B) : Turns q B' W W' :=
  ⟨h.os, h.tape, h.output, h.size, fun k o hk hc => h.block k o hk (by
    rcases hc with hc | hc
    · exact .inl (by omega)
    · right
      cases e : p o with
      | false => rfl
      | true => rw [hpq o e] at hc; cases hc)⟩
theorem Turns.putObj {p : Obj → Bool} {B l : Nat} {W : World} {o : Obj} (o' : Obj) (hl : W.heap[l]? = some o) (hp : p o = true) (hB : B ≤ l) : Turns p B W (W.putObj l o') :=
  ⟨rfl, rfl, rfl, by simp, fun k o2 hk hc => by
    by_cases e : k = l
    · subst e
      rw [hl] at hk; cases hk
      rcases hc with hc | hc
      · omega
      · rw [hp] at hc; cases hc
    · exact (World.putObj_heap_other e).trans hk⟩
theorem Turns.alloc (p : Obj → Bool) (B : Nat) (W : World) (o : Obj) : Turns p B W (W.alloc o) :=
  ⟨rfl, rfl, rfl, by simp, fun k o' hk _ => (Below.heap_alloc W o k (Array.getElem?_eq_some_iff.1 hk).1).trans hk⟩
/-- What the iterator's steps leave as it is. -/
def AbW {β : Type} (B : Nat) (J : β → World → Prop) : Prop := ∀ s W W', J s W → Turns isWd B W W' → J s W'
/-- What abides besides the turn of what is no cells. -/
def isMine (o : Obj) : Bool := isWd o || !o.isCells
def OwnW {β : Type} (B : Nat) (I : β → World → Prop) : Prop := ∀ s W W', I s W → Turns isMine B W W' → I s W'
/-- A round's word: words lie as they lay. -/
structure KeptW (W W' : World) : Prop where
  size : W.heap.size ≤ W'.heap.size
  same : ∀ (k : Nat) (o : Obj), W.heap[k]? = some o → isWd o = true → W'.heap[k]? = some o
theorem KeptW.refl (W : World) : KeptW W W := ⟨Nat.le_refl _, fun _ _ h _ => h⟩
theorem KeptW.trans {A B C : World} (h : KeptW A B) (k : KeptW B C) : KeptW A C := ⟨Nat.le_trans h.size k.size, fun i o hi ho => k.same i o (h.same i o hi ho) ho⟩
theorem KeptW.of_below {W W' : World} (h : Below W.heap.size W W') : KeptW W W' := ⟨h.size, fun k _ hk _ => (h.block k (Array.getElem?_eq_some_iff.1 hk).1).trans hk⟩
theorem isWd_cells {o : Obj} (h : isWd o = true) : o.isCells = true := by cases o <;> simp_all [isWd, Obj.isCells]
theorem KeptW.putObj {W : World} {l : Nat} {o : Obj} (o' : Obj) (h : W.heap[l]? = some o) (hc : isWd o = false) : KeptW W (W.putObj l o') := by
  refine ⟨by simp, fun k o2 hk ho => ?_⟩
  have e : k ≠ l := by
    rintro rfl
    rw [h] at hk; cases hk; rw [ho] at hc; cases hc
  rw [World.putObj_heap_other e]; exact hk
theorem Blk.wd {w : World} {g : Nat} {us : List Int} (h : Blk w g us) : ∀ o, w.heap[g]? = some o → isWd o = true := by
  intro o ho
  have : w.heap[g]? = _ := h
  rw [this] at ho; cases ho; simp [isWd]
theorem Blk.keptW {w w' : World} {g : Nat} {us : List Int} (h : Blk w g us) (k : KeptW w w') : Blk w' g us := k.same g _ h (h.wd _ h)
theorem OwnW.alloc {β : Type} {B : Nat} {I : β → World → Prop} (h : OwnW B I) {s : β} {W : World} (o : Obj) (hs : I s W) : I s (W.alloc o) := h s W _ hs (Turns.alloc _ _ _ _)
theorem OwnW.putObj {β : Type} {B : Nat} {I : β → World → Prop} (h : OwnW B I) {s : β} {W : World} {l : Nat} {o : Obj} (o' : Obj) (hs : I s W) (hB : B ≤ l) (hl : W.heap[l]? = some o) (ho : o.isCells = false) : I s (W.putObj l o') :=
  h s W _ hs (Turns.putObj o' hl (by simp [isMine, ho]) hB)
theorem OwnW.and {β : Type} {B : Nat} {I K : β → World → Prop} (h : OwnW B I) (k : OwnW B K) : OwnW B (fun s W => I s W ∧ K s W) := fun s W W' hs ht => ⟨h s W W' hs.1 ht, k s W W' hs.2 ht⟩
theorem ownW_below {β : Type} {B n : Nat} {w : World} (hn : n ≤ B) (hw : n ≤ w.heap.size) : OwnW B (fun (_ : β) W => Below n w W) :=
  fun _ _ _ hs ht => hs.trans (ht.below hn (Nat.le_trans hw hs.size))
theorem turned_keeps {B : Nat} {W W' : World} (h : Turns isWd B W W') {k : Nat} {o : Obj} (hk : W.heap[k]? = some o) (ho : isWd o = false) : W'.heap[k]? = some o := h.block k o hk (.inr ho)

/-- The contract of an iterator of digits that keeps words of its own between two rounds. -/
def SeqW (F : Fence) (P : Program) (g : Nat) (lb : Array Value) (S Sp : List Int → Prop) (N : Nat) (w : World) : Prop :=
  ∀ (n l : Nat) (J Jx : List Int → World → Prop) (W : World), Below w.heap.size w W → AbW W.heap.size J → AbW W.heap.size Jx →
    (∀ (m : Nat) pre x W1, J pre W1 → 0 ≤ x → x ≤ 9 → pre.length < N → YieldAt F m P l #[.int .i64 x] W1 fun e W' =>
      (e = .returned (.bool true) ∧ J (pre ++ [x]) W' ∧ KeptW W1 W') ∨ (e = .returned (.bool false) ∧ Jx (pre ++ [x]) W')) →
    J [] W →
    CallsIn F n P g (#[.func (.yield l) #[] #[]] ++ lb) W fun e W' => (∃ v, e = .returned v) ∧ ((∃ xs, S xs ∧ J xs W') ∨ (∃ pre, Sp pre ∧ Jx pre W'))
theorem SeqW.inRound {F : Fence} {P : Program} {g : Nat} {lb : Array Value} {S Sp : List Int → Prop} {N : Nat} {w : World} (l : Nat) (h : SeqW F P g lb S Sp N w) : SeqW (F.inRound l) P g lb S Sp N w := h

variable {F : Fence} {n : Nat} {P : Program}
theorem roomN {F : Fence} (hd : F.depth = none) (k : Nat) : F.room k := fun d h => by rw [hd] at h; cases h
theorem roundIn_any {F : Fence} (hd : F.depth = none) {m m' : Nat} {P : Program} {l : Nat} {f : FuncId} {tmps : Array Value} {assign body : Code} {w : World} {R : Ending → World → Prop}
    (h : RoundIn F m P l f tmps assign body w R) : RoundIn F m' P l f tmps assign body w R := ⟨h.1, fun c cs _ => h.2 c cs (roomN hd _)⟩
theorem yieldAt_any {F : Fence} (hd : F.depth = none) {m : Nat} (m' : Nat) {P : Program} {l : Nat} {args : Array Value} {W : World} {R : Ending → World → Prop} (h : YieldAt F m P l args W R) : YieldAt F m' P l args W R := by
  obtain ⟨fn, tmps, assign, body, hy, hR⟩ := h
  exact ⟨fn, tmps, assign, body, hy, roundIn_any hd hR⟩

/-- What a loop's body leaves behind it, by the way in which it is left; l: the loop's record, B: from where on what is no cells lies still. -/
def Left (B : Nat) (I : List Int → World → Prop) (Ix : Code → List Int → World → Prop) (xs : List Int) (W : World) : Exit → Act → World → Prop
  | .normal, _, W' => KeepsFrom B W W' ∧ KeptW W W' ∧ I xs W'
  | .ret, _, W' => KeepsFrom B W W' ∧ Ix .ret xs W'
  | .exit id, _, W' => KeepsFrom B W W' ∧ Ix (.exit id) xs W'
  | .goto t, _, W' => KeepsFrom B W W' ∧ Ix (.goto t) xs W'
  | _, _, _ => False

section loop
variable {g : Operand} {ps : Array Tmp} {assign body : Code} {a : Act} {gf : Nat} {lb : Array Value} {S Sp : List Int → Prop} {N B l dl : Nat} {w0 W1 : World} {fn : FuncId}
  {I : List Int → World → Prop} {Ix : Code → List Int → World → Prop} {a₁ : Int → Act}

/-- The record of the loop. -/
def recd (fn : FuncId) (tmps : Array Value) (ps : Array Tmp) (assign body : Code) (dl : Nat) (st : LoopState) (pe : Option Code) : Obj :=
  .loop { state := st, pending := pe, fn, tmps, params := ps, assign, body, defers := dl }

/-- The loop's rounds, the iterator going on between them with words of its own. -/
theorem rounds (hseq : SeqW F P gf lb S Sp N w0) (hfn : F.fn fn) (hps : ps.size = 1) (hw : Below w0.heap.size w0 W1) (hB : B ≤ l)
    (hl : W1.heap[l]? = some (recd fn a.tmps ps assign body dl .ready none)) (hI : OwnW l I) (hIx : ∀ c, OwnW l (Ix c)) (h0 : I [] W1)
    (hassign : ∀ (m : Nat) (x : Int) (W : World) (K : Act → World → Prop), K (a₁ x) W →
      assign.wpIn (F.inRound l) m P (Exit.then K (fun _ _ _ => False)) { tmps := (ps.zip #[Value.int .i64 x]).foldl (fun t (p, v) => t.setIfInBounds p v) a.tmps, defers := [] } W)
    (hbody : ∀ (m : Nat) (pre : List Int) (x : Int) (W : World), (∃ r, W.heap[l]? = some (.loop r)) → I pre W → 0 ≤ x → x ≤ 9 → pre.length < N → body.wpIn (F.inRound l) m P (Left B I Ix (pre ++ [x]) W) (a₁ x) W) :
    CallsIn F n P gf (#[.func (.yield l) #[] #[]] ++ lb) W1 fun e W2 => (∃ v, e = .returned v) ∧
      ((∃ xs, S xs ∧ I xs W2 ∧ W2.heap[l]? = some (recd fn a.tmps ps assign body dl .ready none)) ∨
       (∃ c pre, Sp pre ∧ Ix c pre W2 ∧ W2.heap[l]? = some (recd fn a.tmps ps assign body dl .done (some c)))) := by
  have hlt1 : l < W1.heap.size := (Array.getElem?_eq_some_iff.1 hl).1
  have mine : ∀ {A C : World}, Turns isWd W1.heap.size A C → Turns isMine l A C := fun t => t.imp (fun o ho => by simp [isMine, ho]) (by omega)
  have still : ∀ {A C : World} {st pe}, Turns isWd W1.heap.size A C → A.heap[l]? = some (recd fn a.tmps ps assign body dl st pe) → C.heap[l]? = some (recd fn a.tmps ps assign body dl st pe) :=
    fun t h => t.block l _ h (.inr rfl)
  refine (hseq n l (fun pre W => I pre W ∧ W.heap[l]? = some (recd fn a.tmps ps assign body dl .ready none))
    (fun pre W => ∃ c, Ix c pre W ∧ W.heap[l]? = some (recd fn a.tmps ps assign body dl .done (some c))) W1 hw
    (fun s A C h t => ⟨hI s A C h.1 (mine t), still t h.2⟩) (fun s A C ⟨c, h1, h2⟩ t => ⟨c, hIx c s A C h1 (mine t), still t h2⟩) ?_ ⟨h0, hl⟩).mono ?_
  · rintro m pre x W ⟨hi, hr⟩ x0 x9 hlen
    have busy : (W.putObj l (recd fn a.tmps ps assign body dl .busy none)).heap[l]? = some (recd fn a.tmps ps assign body dl .busy none) := World.putObj_heap_same (Array.getElem?_eq_some_iff.1 hr).1
    have hy := run_yield (P := P) (args := #[Value.int .i64 x]) hr (by simp [hps])
    refine ⟨fn, _, assign, body, hy, roundIn_of_wpIn hfn (hassign m x W _ ⟨_, run_beginRound hr rfl, ?_⟩)⟩
    have hk0 : KeptW W (W.putObj l (recd fn a.tmps ps assign body dl .busy none)) := KeptW.putObj _ hr rfl
    refine wpIn_mono (hbody m pre x (W.putObj l (recd fn a.tmps ps assign body dl .busy none)) ⟨_, busy⟩ (hI.putObj _ hi (Nat.le_refl _) hr rfl) x0 x9 hlen) ?_
    -- how the record lies behind the body, and behind the round
    have after : ∀ {W3 : World} (j : Option Code), KeepsFrom B (W.putObj l (recd fn a.tmps ps assign body dl .busy none)) W3 →
        W3.heap[l]? = some (recd fn a.tmps ps assign body dl .busy none) ∧
        (Instr.endRound l j).run P W3 = .ok (.bool j.isNone) (W3.putObj l (recd fn a.tmps ps assign body dl (if j.isNone then .ready else .done) j)) ∧
        (W3.putObj l (recd fn a.tmps ps assign body dl (if j.isNone then .ready else .done) j)).heap[l]? = some (recd fn a.tmps ps assign body dl (if j.isNone then .ready else .done) j) := by
      intro W3 j hk
      have h3 := hk.same l _ hB busy rfl
      exact ⟨h3, run_endRound j h3, World.putObj_heap_same (Array.getElem?_eq_some_iff.1 h3).1⟩
    intro e a3 W3 hp
    have away : ∀ c, KeepsFrom B (W.putObj l (recd fn a.tmps ps assign body dl .busy none)) W3 ∧ Ix c (pre ++ [x]) W3 →
        ∃ v w', (Instr.endRound l (some c)).run P W3 = .ok v w' ∧ ((Ending.returned v = .returned (.bool true) ∧ (I (pre ++ [x]) w' ∧ w'.heap[l]? = some (recd fn a.tmps ps assign body dl .ready none)) ∧ KeptW W w') ∨
          (Ending.returned v = .returned (.bool false) ∧ ∃ c, Ix c (pre ++ [x]) w' ∧ w'.heap[l]? = some (recd fn a.tmps ps assign body dl .done (some c)))) := by
      rintro c ⟨h1, h2⟩
      obtain ⟨p1, p2, p3⟩ := after (some c) h1
      exact ⟨_, _, p2, .inr ⟨rfl, c, (hIx c).putObj _ h2 (Nat.le_refl _) p1 rfl, p3⟩⟩
    cases e with
    | normal =>
      obtain ⟨h1, h2, h3⟩ := hp
      obtain ⟨p1, p2, p3⟩ := after none h1
      exact ⟨_, _, p2, .inl ⟨rfl, ⟨hI.putObj _ h3 (Nat.le_refl _) p1 rfl, p3⟩, (hk0.trans h2).trans (KeptW.putObj _ p1 rfl)⟩⟩
    | ret => exact away _ hp
    | exit id => exact away _ hp
    | goto t => exact away _ hp
    | panic ch => exact hp.elim
    | outgrown => exact hp.elim
  · rintro e W2 ⟨hv, ⟨xs, h1, h2, h3⟩ | ⟨pre, h1, c, h2, h3⟩⟩
    · exact ⟨hv, .inl ⟨xs, h1, h2, h3⟩⟩
    · exact ⟨hv, .inr ⟨c, pre, h1, h2, h3⟩⟩

set_option maxHeartbeats 100000 in
/-- A range over an iterator with words of its own, in no other's round. -/
theorem range_out {Q : Exit → Act → World → Prop} {w : World} (hro : F.round = none) (hd : F.depth = none) (hg : a.eval g = .func (.func gf) #[] lb) (hFg : F.fn gf) (eg : ∀ args w, (callFunc gf args).run P w = .ok (.enter gf args) w)
    (hseq : SeqW F P gf lb S Sp N w0) (hw : Below w0.heap.size w0 w) (hps : ps.size = 1)
    (I : List Int → World → Prop) (Ix : Code → List Int → World → Prop) (hI : OwnW w.heap.size I) (hIx : ∀ c, OwnW w.heap.size (Ix c)) (h0 : I [] w) (a₁ : Int → Act)
    (hassign : ∀ (l m : Nat) (x : Int) (W : World) (K : Act → World → Prop), K (a₁ x) W →
      assign.wpIn (F.inRound l) m P (Exit.then K (fun _ _ _ => False)) { tmps := (ps.zip #[Value.int .i64 x]).foldl (fun t (p, v) => t.setIfInBounds p v) a.tmps, defers := [] } W)
    (hbody : ∀ (l m : Nat) (pre : List Int) (x : Int) (W : World), (∃ r, W.heap[l]? = some (.loop r)) → w.heap.size ≤ l → I pre W → 0 ≤ x → x ≤ 9 → pre.length < N → body.wpIn (F.inRound l) m P (Left w.heap.size I Ix (pre ++ [x]) W) (a₁ x) W)
    (hdone : ∀ (D : Nat) (xs : List Int) (W : World), w.heap.size ≤ D → S xs → I xs W → W.heap[D]? = some (.deferred (some [])) → Q .normal { a with defers := { target := .collected D, args := #[] } :: a.defers } W)
    (hstop : ∀ (D : Nat) (c : Code) (pre : List Int) (W : World), w.heap.size ≤ D → Sp pre → Ix c pre W → W.heap[D]? = some (.deferred (some [])) → c.wpIn F n P Q { a with defers := { target := .collected D, args := #[] } :: a.defers } W) :
    (Code.rangeFunc g ps assign body).wpIn F n P Q a w := by
  refine wpIn_rangeFunc fun fn hfn => ?_
  obtain ⟨W1, hW1⟩ : ∃ W1, (w.alloc (.deferred (some []))).alloc (recd fn a.tmps ps assign body w.heap.size .ready none) = W1 := ⟨_, rfl⟩
  have hWd : W1.heap[w.heap.size]? = some (.deferred (some [])) := by
    rw [← hW1]; exact (Below.heap_alloc _ _ _ (by simp)).trans (World.alloc_heap_new w _)
  have hWl : W1.heap[w.heap.size + 1]? = some (recd fn a.tmps ps assign body w.heap.size .ready none) := by
    rw [← hW1]
    have := World.alloc_heap_new (w.alloc (.deferred (some []))) (recd fn a.tmps ps assign body w.heap.size .ready none)
    rwa [World.size_alloc] at this
  have up : ∀ {J : List Int → World → Prop}, OwnW w.heap.size J → OwnW (w.heap.size + 1) (fun pre W => J pre W ∧ W.heap[w.heap.size]? = some (.deferred (some []))) :=
    fun h s A C k t => ⟨h s A C k.1 (t.imp (fun _ ho => ho) (by omega)), t.block _ _ k.2 (.inl (by omega))⟩
  have hdef : ∀ {A C : World}, KeepsFrom w.heap.size A C → A.heap[w.heap.size]? = some (.deferred (some [])) → C.heap[w.heap.size]? = some (.deferred (some [])) := fun k h => k.same _ _ (Nat.le_refl _) h rfl
  have hWI : I [] W1 := by rw [← hW1]; exact hI.alloc _ (hI.alloc _ h0)
  have hWb : Below w0.heap.size w0 W1 := by
    rw [← hW1]; exact hw.trans ((((Below.refl _ w).alloc (Nat.le_refl _) _).alloc (by simp) _).mono hw.size)
  have hcall := rounds (a := a) (n := n - 1) (B := w.heap.size) (I := fun pre W => I pre W ∧ W.heap[w.heap.size]? = some (.deferred (some []))) (Ix := fun c pre W => Ix c pre W ∧ W.heap[w.heap.size]? = some (.deferred (some []))) (a₁ := a₁) hseq hfn hps
    hWb (by omega) hWl (up hI) (fun c => up (hIx c)) ⟨hWI, hWd⟩ (hassign _)
    (fun m pre x W hr hi x0 x9 hlen => wpIn_mono (hbody _ m pre x W hr (by omega) hi.1 x0 x9 hlen) (fun e a3 W3 hp => by
      cases e with
      | normal => exact ⟨hp.1, hp.2.1, hp.2.2, hdef hp.1 hi.2⟩
      | ret => exact ⟨hp.1, hp.2, hdef hp.1 hi.2⟩
      | exit id => exact ⟨hp.1, hp.2, hdef hp.1 hi.2⟩
      | goto t => exact ⟨hp.1, hp.2, hdef hp.1 hi.2⟩
      | panic ch => exact hp.elim
      | outgrown => exact hp.elim))
  refine ⟨w.heap.size + 1, [{ target := .collected w.heap.size, args := #[] }], W1, { target := .fn (.func gf) lb, args := #[.func (.yield (w.heap.size + 1)) #[] #[]] }, W1, gf, #[.func (.yield (w.heap.size + 1)) #[] #[]] ++ lb, W1, ?_, ?_, ?_, ?_, ?_, ?_⟩
  · rw [hro, ← hW1]; exact run_enterLoop_outer _ _ _ _ _
  · simp only [resolve, hg]
    simp [go_sem]
  · intro f' hf'
    simp [Target.leads] at hf'; subst hf'; exact hFg
  · simp [invoke, go_sem, eg]
  · intro h
    rw [hd] at h; cases h
  refine hcall.mono ?_
  rintro e W2 ⟨⟨v, rfl⟩, ⟨xs, hS, hi, hl⟩ | ⟨c, pre, hS, hi, hl⟩⟩
  · have h1 := run_endLoop (P := P) hl (by simp)
    exact ⟨none, _, h1, hdone _ xs _ (Nat.le_refl _) hS (hI.putObj _ hi.1 (by omega) hl rfl) ((World.putObj_heap_other (by omega)).trans hi.2)⟩
  · have h1 := run_endLoop (P := P) hl (by simp)
    exact ⟨some c, _, h1, hstop _ c pre _ (Nat.le_refl _) hS ((hIx c).putObj _ hi.1 (by omega) hl rfl) ((World.putObj_heap_other (by omega)).trans hi.2)⟩
end loop
end Go.Proofs.YtfelogbfijomiabGreatDoor

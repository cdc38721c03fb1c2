import Derived.Test.YtpkfiomabiacaaaGreatDoorNumAll
import Derived.Test.YtpkfiomabiacaaaGreatDoorSumAll
import Derived.RangeFuncNested
import Derived.RangeFuncBound
import Derived.RangeFuncCalls
import Derived.RangeFuncLeaves
import Derived.Shelf.Abstract
import Derived.Shelf.RegionOpen
import Derived.WalkKit
import Derived.OwnWalkIn
import Derived.TacticsInMore
import Derived.LoopNIn
import Derived.LoopIn
import Derived.Maps.AppendAt
import Derived.Shelf.RegionOpenPlain
import Derived.Laws.BytesArg
namespace Go.Proofs.YtpkfiomabiacaaaGreatDoor
open Go.RowKit

end Go.Proofs.YtpkfiomabiacaaaGreatDoor

namespace Go.Proofs.YtpkfiomabiacaaaGreatDoor
open Go.RowKit Go.Shelf

/-- A block of words (limbs). -/
def isWd : Obj → Bool
  | .cells _ t _ => t == 62
  | _ => false
/-- From one world to a later one: blocks are laid; of those that lay, only such are turned as p tells, from block B on. -/
structure Turns (p : Obj → Bool) (B : Nat) (W W' : World) : Prop where
  os : W'.os = W.os
  tape : W'.tape = W.tape
  output : W'.output = W.output
  size : W.heap.size ≤ W'.heap.size
  block : ∀ (k : Nat) (o : Obj), W.heap[k]? = some o → (k < B ∨ p o = false) → W'.heap[k]? = some o
theorem Turns.below {p : Obj → Bool} {B : Nat} {W W' : World} (h : Turns p B W W') {B' : Nat} (hB : B' ≤ B) (hs : B' ≤ W.heap.size) : Below B' W W' :=
  ⟨h.os, h.tape, h.output, h.size, fun k hk => by
    have : k < W.heap.size := by omega
    rw [h.block k _ (Array.getElem?_eq_getElem this) (.inl (by omega)), Array.getElem?_eq_getElem this]⟩
theorem Turns.of_below {p : Obj → Bool} {B : Nat} {W W' : World} (h : Below W.heap.size W W') : Turns p B W W' :=
  ⟨h.os, h.tape, h.output, h.size, fun k _ hk _ => (h.block k (Array.getElem?_eq_some_iff.1 hk).1).trans hk⟩
theorem Turns.imp {p q : Obj → Bool} {B B' : Nat} {W W' : World} (h : Turns p B W W') (hpq : ∀ o, p o = true → q o = true) (hB : B' ≤ B) : Turns q B' W W' :=
  ⟨h.os, h.tape, h.output, h.size, fun k o hk hc => h.block k o hk (by
    rcases hc with hc | hc
    · exact .inl (by omega)
    · right
      cases e : p o with
      | false => rfl
      | true => rw [hpq o e] at hc; cases hc)⟩
theorem Turns.putObj {p : Obj → Bool} {B l : Nat} {W : World} {o : Obj} (o' : Obj) (hl : W.heap[l]? = some o) (hp : p o = true) (hB : B ≤ l) : Turns p B W (W.putObj l o') :=
  ⟨rfl, rfl, rfl, by simp, fun k o2 hk hc => by
    by_cases e : k = l
    · subst e
      rw [hl] at hk; cases hk
      rcases hc with hc | hc
      · omega
      · rw [hp] at hc; cases hc
    · exact (World.putObj_heap_other e).trans hk⟩
theorem Turns.alloc (p : Obj → Bool) (B : Nat) (W : World) (o : Obj) : Turns p B W (W.alloc o) :=
  ⟨rfl, rfl, rfl, by simp, fun k o' hk _ => (Below.heap_alloc W o k (Array.getElem?_eq_some_iff.1 hk).1).trans hk⟩
/-- What the iterator's steps leave as it is. -/
def AbW {β : Type} (B : Nat) (J : β → World → Prop) : Prop := ∀ s W W', J s W → Turns isWd B W W' → J s W'
/-- What abides besides the turn of what is no cells. -/
def isMine (o : Obj) : Bool := isWd o || !o.isCells
def OwnW {β : Type} (B : Nat) (I : β → World → Prop) : Prop := ∀ s W W', I s W → Turns isMine B W W' → I s W'
/-- A round's word: words lie as they lay. -/
structure KeptW (W W' : World) : Prop where
  size : W.heap.size ≤ W'.heap.size
  same : ∀ (k : Nat) (o : Obj), W.heap[k]? = some o → isWd o = true → W'.heap[k]? = some o
theorem KeptW.refl (W : World) : KeptW W W := ⟨Nat.le_refl _, fun _ _ h _ => h⟩
theorem KeptW.trans {A B C : World} (h : KeptW A B) (k : KeptW B C) : KeptW A C := ⟨Nat.le_trans h.size k.size, fun i o hi ho => k.same i o (h.same i o hi ho) ho⟩
theorem KeptW.of_below {W W' : World} (h : Below W.heap.size W W') : KeptW W W' := ⟨h.size, fun k _ hk _ => (h.block k (Array.getElem?_eq_some_iff.1 hk).1).trans hk⟩
theorem KeptW.putObj {W : World} {l : Nat} {o : Obj} (o' : Obj) (h : W.heap[l]? = some o) (hc : isWd o = false) : KeptW W (W.putObj l o') := by
  refine ⟨by simp, fun k o2 hk ho => ?_⟩
  have e : k ≠ l := by
    rintro rfl
    rw [h] at hk; cases hk; rw [ho] at hc; cases hc
  rw [World.putObj_heap_other e]; exact hk
theorem OwnW.alloc {β : Type} {B : Nat} {I : β → World → Prop} (h : OwnW B I) {s : β} {W : World} (o : Obj) (hs : I s W) : I s (W.alloc o) := h s W _ hs (Turns.alloc _ _ _ _)
theorem OwnW.putObj {β : Type} {B : Nat} {I : β → World → Prop} (h : OwnW B I) {s : β} {W : World} {l : Nat} {o : Obj} (o' : Obj) (hs : I s W) (hB : B ≤ l) (hl : W.heap[l]? = some o) (ho : o.isCells = false) : I s (W.putObj l o') :=
  h s W _ hs (Turns.putObj o' hl (by simp [isMine, ho]) hB)
theorem OwnW.and {β : Type} {B : Nat} {I K : β → World → Prop} (h : OwnW B I) (k : OwnW B K) : OwnW B (fun s W => I s W ∧ K s W) := fun s W W' hs ht => ⟨h s W W' hs.1 ht, k s W W' hs.2 ht⟩
/-- The contract of an iterator of digits that keeps words of its own between two rounds. -/
def SeqW (F : Fence) (P : Program) (g : Nat) (lb : Array Value) (S Sp : List Int → Prop) (N : Nat) (w : World) : Prop :=
  ∀ (n l : Nat) (J Jx : List Int → World → Prop) (W : World), Below w.heap.size w W → AbW W.heap.size J → AbW W.heap.size Jx →
    (∀ (m : Nat) pre x W1, J pre W1 → 0 ≤ x → x ≤ 9 → pre.length < N → YieldAt F m P l #[.int .i64 x] W1 fun e W' =>
      (e = .returned (.bool true) ∧ J (pre ++ [x]) W' ∧ KeptW W1 W') ∨ (e = .returned (.bool false) ∧ Jx (pre ++ [x]) W')) →
    J [] W →
    CallsIn F n P g (#[.func (.yield l) #[] #[]] ++ lb) W fun e W' => (∃ v, e = .returned v) ∧ ((∃ xs, S xs ∧ J xs W') ∨ (∃ pre, Sp pre ∧ Jx pre W'))
theorem SeqW.inRound {F : Fence} {P : Program} {g : Nat} {lb : Array Value} {S Sp : List Int → Prop} {N : Nat} {w : World} (l : Nat) (h : SeqW F P g lb S Sp N w) : SeqW (F.inRound l) P g lb S Sp N w := h

variable {F : Fence} {n : Nat} {P : Program}
/-- What a loop's body leaves behind it, by the way in which it is left; l: the loop's record, B: from where on what is no cells lies still. -/
def Left (B : Nat) (I : List Int → World → Prop) (Ix : Code → List Int → World → Prop) (xs : List Int) (W : World) : Exit → Act → World → Prop
  | .normal, _, W' => KeepsFrom B W W' ∧ KeptW W W' ∧ I xs W'
  | .ret, _, W' => KeepsFrom B W W' ∧ Ix .ret xs W'
  | .exit id, _, W' => KeepsFrom B W W' ∧ Ix (.exit id) xs W'
  | .goto t, _, W' => KeepsFrom B W W' ∧ Ix (.goto t) xs W'
  | _, _, _ => False

section loop
variable {g : Operand} {ps : Array Tmp} {assign body : Code} {a : Act} {gf : Nat} {lb : Array Value} {S Sp : List Int → Prop} {N B l dl : Nat} {w0 W1 : World} {fn : FuncId}
  {I : List Int → World → Prop} {Ix : Code → List Int → World → Prop} {a₁ : Int → Act}

/-- The record of the loop. -/
def recd (fn : FuncId) (tmps : Array Value) (ps : Array Tmp) (assign body : Code) (dl : Nat) (st : LoopState) (pe : Option Code) : Obj :=
  .loop { state := st, pending := pe, fn, tmps, params := ps, assign, body, defers := dl }

/-- The loop's rounds, the iterator going on between them with words of its own. -/
theorem rounds (hseq : SeqW F P gf lb S Sp N w0) (hfn : F.fn fn) (hps : ps.size = 1) (hw : Below w0.heap.size w0 W1) (hB : B ≤ l)
    (hl : W1.heap[l]? = some (recd fn a.tmps ps assign body dl .ready none)) (hI : OwnW l I) (hIx : ∀ c, OwnW l (Ix c)) (h0 : I [] W1)
    (hassign : ∀ (m : Nat) (x : Int) (W : World) (K : Act → World → Prop), K (a₁ x) W →
      assign.wpIn (F.inRound l) m P (Exit.then K (fun _ _ _ => False)) { tmps := (ps.zip #[Value.int .i64 x]).foldl (fun t (p, v) => t.setIfInBounds p v) a.tmps, defers := [] } W)
    (hbody : ∀ (m : Nat) (pre : List Int) (x : Int) (W : World), (∃ r, W.heap[l]? = some (.loop r)) → I pre W → 0 ≤ x → x ≤ 9 → pre.length < N → body.wpIn (F.inRound l) m P (Left B I Ix (pre ++ [x]) W) (a₁ x) W) :
    CallsIn F n P gf (#[.func (.yield l) #[] #[]] ++ lb) W1 fun e W2 => (∃ v, e = .returned v) ∧
      ((∃ xs, S xs ∧ I xs W2 ∧ W2.heap[l]? = some (recd fn a.tmps ps assign body dl .ready none)) ∨
       (∃ c pre, Sp pre ∧ Ix c pre W2 ∧ W2.heap[l]? = some (recd fn a.tmps ps assign body dl .done (some c)))) := by
  have hlt1 : l < W1.heap.size := (Array.getElem?_eq_some_iff.1 hl).1
  have mine : ∀ {A C : World}, Turns isWd W1.heap.size A C → Turns isMine l A C := fun t => t.imp (fun o ho => by simp [isMine, ho]) (by omega)
  have still : ∀ {A C : World} {st pe}, Turns isWd W1.heap.size A C → A.heap[l]? = some (recd fn a.tmps ps assign body dl st pe) → C.heap[l]? = some (recd fn a.tmps ps assign body dl st pe) :=
    fun t h => t.block l _ h (.inr rfl)
  refine (hseq n l (fun pre W => I pre W ∧ W.heap[l]? = some (recd fn a.tmps ps assign body dl .ready none))
    (fun pre W => ∃ c, Ix c pre W ∧ W.heap[l]? = some (recd fn a.tmps ps assign body dl .done (some c))) W1 hw
    (fun s A C h t => ⟨hI s A C h.1 (mine t), still t h.2⟩) (fun s A C ⟨c, h1, h2⟩ t => ⟨c, hIx c s A C h1 (mine t), still t h2⟩) ?_ ⟨h0, hl⟩).mono ?_
  · rintro m pre x W ⟨hi, hr⟩ x0 x9 hlen
    have busy : (W.putObj l (recd fn a.tmps ps assign body dl .busy none)).heap[l]? = some (recd fn a.tmps ps assign body dl .busy none) := World.putObj_heap_same (Array.getElem?_eq_some_iff.1 hr).1
    have hy := run_yield (P := P) (args := #[Value.int .i64 x]) hr (by simp [hps])
    refine ⟨fn, _, assign, body, hy, roundIn_of_wpIn hfn (hassign m x W _ ⟨_, run_beginRound hr rfl, ?_⟩)⟩
    have hk0 : KeptW W (W.putObj l (recd fn a.tmps ps assign body dl .busy none)) := KeptW.putObj _ hr rfl
    refine wpIn_mono (hbody m pre x (W.putObj l (recd fn a.tmps ps assign body dl .busy none)) ⟨_, busy⟩ (hI.putObj _ hi (Nat.le_refl _) hr rfl) x0 x9 hlen) ?_
    -- how the record lies behind the body, and behind the round
    have after : ∀ {W3 : World} (j : Option Code), KeepsFrom B (W.putObj l (recd fn a.tmps ps assign body dl .busy none)) W3 →
        W3.heap[l]? = some (recd fn a.tmps ps assign body dl .busy none) ∧
        (Instr.endRound l j).run P W3 = .ok (.bool j.isNone) (W3.putObj l (recd fn a.tmps ps assign body dl (if j.isNone then .ready else .done) j)) ∧
        (W3.putObj l (recd fn a.tmps ps assign body dl (if j.isNone then .ready else .done) j)).heap[l]? = some (recd fn a.tmps ps assign body dl (if j.isNone then .ready else .done) j) := by
      intro W3 j hk
      have h3 := hk.same l _ hB busy rfl
      exact ⟨h3, run_endRound j h3, World.putObj_heap_same (Array.getElem?_eq_some_iff.1 h3).1⟩
    intro e a3 W3 hp
    have away : ∀ c, KeepsFrom B (W.putObj l (recd fn a.tmps ps assign body dl .busy none)) W3 ∧ Ix c (pre ++ [x]) W3 →
        ∃ v w', (Instr.endRound l (some c)).run P W3 = .ok v w' ∧ ((Ending.returned v = .returned (.bool true) ∧ (I (pre ++ [x]) w' ∧ w'.heap[l]? = some (recd fn a.tmps ps assign body dl .ready none)) ∧ KeptW W w') ∨
          (Ending.returned v = .returned (.bool false) ∧ ∃ c, Ix c (pre ++ [x]) w' ∧ w'.heap[l]? = some (recd fn a.tmps ps assign body dl .done (some c)))) := by
      rintro c ⟨h1, h2⟩
      obtain ⟨p1, p2, p3⟩ := after (some c) h1
      exact ⟨_, _, p2, .inr ⟨rfl, c, (hIx c).putObj _ h2 (Nat.le_refl _) p1 rfl, p3⟩⟩
    cases e with
    | normal =>
      obtain ⟨h1, h2, h3⟩ := hp
      obtain ⟨p1, p2, p3⟩ := after none h1
      exact ⟨_, _, p2, .inl ⟨rfl, ⟨hI.putObj _ h3 (Nat.le_refl _) p1 rfl, p3⟩, (hk0.trans h2).trans (KeptW.putObj _ p1 rfl)⟩⟩
    | ret => exact away _ hp
    | exit id => exact away _ hp
    | goto t => exact away _ hp
    | panic ch => exact hp.elim
    | outgrown => exact hp.elim
  · rintro e W2 ⟨hv, ⟨xs, h1, h2, h3⟩ | ⟨pre, h1, c, h2, h3⟩⟩
    · exact ⟨hv, .inl ⟨xs, h1, h2, h3⟩⟩
    · exact ⟨hv, .inr ⟨c, pre, h1, h2, h3⟩⟩

end loop
end Go.Proofs.YtpkfiomabiacaaaGreatDoor

namespace Go.Proofs.YtpkfiomabiacaaaGreatDoor
open Go.RowKit Go.Shelf
attribute [local go_sem] Oper.semAt_some

end Go.Proofs.YtpkfiomabiacaaaGreatDoor

namespace Go.Proofs.YtpkfiomabiacaaaGreatDoor
open Go.RowKit

/-- What cut makes of a number: its quotient; the rest. -/
theorem cutR_low (us : List Int) (n : Nat) (d : Int) (j i : Nat) (h : i + j < n) : lm (cutR us n d j).1 i = lm us i := by
  induction j with
  | zero => rfl
  | succ j ih => simp only [cutR]; rw [lm_set, if_neg (by omega), ih (by omega)]
theorem div_mul (t d P : Int) : t / d * P * d + t % d * P = t * P := by
  have h : t = t / d * d + t % d := by rw [Int.mul_comm]; exact (Int.mul_ediv_add_emod t d).symm
  have e : t / d * P * d = t / d * d * P := Int.mul_right_comm _ _ _
  rw [e, ← Int.add_mul, ← h]
theorem cutR_val {us : List Int} {d : Int} (n : Nat) (hu : AllW us) (hd : 0 < d) (hn : n ≤ us.length) (j : Nat) (hj : j ≤ n) :
    (vS (cutR us n d j).1 n - vS us (n - j)) * d + (cutR us n d j).2 * pw (n - j) = vS us n - vS us (n - j) := by
  induction j with
  | zero => simp [cutR]
  | succ j ih =>
    have ih := ih (by omega)
    obtain ⟨h1, h2, h3, h4⟩ := cutR_ok (us := us) n hu hd j
    have hl := cutR_low us n d j (n - 1 - j) (by omega)
    simp only [cutR]
    generalize (cutR us n d j).1 = U at *
    generalize (cutR us n d j).2 = C at *
    rw [vS_set _ (by omega) (by omega), hl]
    obtain ⟨m, hm⟩ : ∃ m, n - j = m + 1 := ⟨n - j - 1, by omega⟩
    have em : n - (j + 1) = m := by omega
    have em2 : n - 1 - j = m := by omega
    rw [hm] at ih
    rw [em, em2]
    simp only [vS] at ih
    rw [pw_succ] at ih
    have e1 := div_mul (C * 18446744073709551616 + lm us m) d (pw m)
    rw [Int.add_mul (C * 18446744073709551616)] at e1
    have e2 : C * (pw m * 18446744073709551616) = C * 18446744073709551616 * pw m := by rw [Int.mul_comm (pw m), Int.mul_assoc]
    rw [e2] at ih
    have e3 : (vS U n + ((C * 18446744073709551616 + lm us m) / d - lm us m) * pw m - vS us m) * d = (vS U n - (vS us m + lm us m * pw m)) * d + (C * 18446744073709551616 + lm us m) / d * pw m * d := by
      rw [← Int.add_mul]
      congr 1
      rw [Int.sub_mul]
      omega
    rw [e3]
    generalize (vS U n - (vS us m + lm us m * pw m)) * d = A at *
    omega
theorem cutR_end {us : List Int} {d : Int} (hu : AllW us) (hd : 0 < d) : AllW (cutR us us.length d us.length).1 ∧ (cutR us us.length d us.length).1.length = us.length ∧ val (cutR us us.length d us.length).1 = val us / d ∧ (cutR us us.length d us.length).2 = val us % d := by
  obtain ⟨h1, h2, h3, h4⟩ := cutR_ok (us := us) us.length hu hd us.length
  have hv := cutR_val us.length hu hd (Nat.le_refl _) us.length (Nat.le_refl _)
  rw [Nat.sub_self, pw_zero] at hv
  simp only [vS] at hv
  have e1 : vS (cutR us us.length d us.length).1 us.length = val (cutR us us.length d us.length).1 := vS_long (by omega)
  have e2 : vS us us.length = val us := rfl
  rw [e1, e2] at hv
  obtain ⟨u1, u2⟩ := div_unique (x := val us) (y := d) (q := val (cutR us us.length d us.length).1) (r := (cutR us us.length d us.length).2) (by simp at hv; omega) h3 h4
  exact ⟨h1, h2, u1.symm, u2.symm⟩
end Go.Proofs.YtpkfiomabiacaaaGreatDoor

namespace Go.Proofs.YtpkfiomabiacaaaGreatDoor
open Go.RowKit Go.Shelf
attribute [local go_sem] Oper.semAt_some

end Go.Proofs.YtpkfiomabiacaaaGreatDoor

namespace Go.Proofs.YtpkfiomabiacaaaGreatDoor
open Go.RowKit Go.Shelf

end Go.Proofs.YtpkfiomabiacaaaGreatDoor

namespace Go.Proofs.YtpkfiomabiacaaaGreatDoor
open Go.RowKit Go.Shelf
attribute [local go_sem] Oper.semAt_some

theorem KeptW.grown {W W' : World} {row : Option Nat} (hg : W.grownBy W' row) (hr : ∀ (j : Nat) (o : Obj), row = some j → W.heap[j]? = some o → isWd o = false) : KeptW W W' :=
  ⟨hg.size, fun k o hk ho => (hg.block k (Array.getElem?_eq_some_iff.1 hk).1 (fun e => by rw [hr k o e.symm hk] at ho; cases ho)).trans hk⟩
end Go.Proofs.YtpkfiomabiacaaaGreatDoor

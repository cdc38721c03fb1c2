import Derived.Test.YtcakohejaboplaaGreatDoorNumAll
import Derived.Test.YtcakohejaboplaaGreatDoorSumAll
import Derived.RangeFuncNested
import Derived.RangeFuncBound
import Derived.RangeFuncCalls
import Derived.RangeFuncLeaves
import Derived.Shelf.Abstract
import Derived.Shelf.RegionOpen
import Derived.WalkKit
import Derived.OwnWalkIn
import Derived.TacticsInMore
import Derived.LoopNIn
import Derived.LoopIn
import Derived.Maps.AppendAt
import Derived.Shelf.RegionOpenPlain
import Derived.Laws.BytesArg
namespace Go.Proofs.YtcakohejaboplaaGreatDoor
open Go.RowKit

/-- The decimal digits of a number, the least first. -/
def decsF : Nat → Nat → List Int
  | 0, _ => []
  | f + 1, v => if v = 0 then [] else ((v % 10 : Nat) : Int) :: decsF f (v / 10)
theorem decsF_eq (f : Nat) : ∀ (g v : Nat), v ≤ f → v ≤ g → decsF f v = decsF g v := by
  induction f with
  | zero =>
    intro g v h1 h2
    have h0 : v = 0 := by omega
    subst h0
    cases g <;> simp [decsF]
  | succ f ih =>
    intro g v h1 h2
    by_cases hv : v = 0
    · subst hv
      cases g <;> simp [decsF]
    · cases g with
      | zero => omega
      | succ g =>
        simp only [decsF, if_neg hv]
        rw [ih g (v / 10) (by omega) (by omega)]
/-- .. as many as there are. -/
def decs (v : Nat) : List Int := decsF v v
theorem decs_zero : decs 0 = [] := rfl
theorem decs_pos {v : Nat} (h : v ≠ 0) : decs v = ((v % 10 : Nat) : Int) :: decs (v / 10) := by
  obtain ⟨u, rfl⟩ : ∃ u, v = u + 1 := ⟨v - 1, by omega⟩
  unfold decs
  simp only [decsF, if_neg h]
  rw [decsF_eq u ((u + 1) / 10) ((u + 1) / 10) (by omega) (Nat.le_refl _)]
/-- So many of its digits, noughts at the end among them. -/
def padD : Nat → Nat → List Int
  | 0, _ => []
  | k + 1, v => ((v % 10 : Nat) : Int) :: padD k (v / 10)
theorem padD_len (k v : Nat) : (padD k v).length = k := by induction k generalizing v with | zero => rfl | succ k ih => simp [padD, ih]
theorem decs_split (k v : Nat) (h : v / 10 ^ k ≠ 0) : decs v = padD k v ++ decs (v / 10 ^ k) := by
  induction k generalizing v with
  | zero => simp [padD]
  | succ k ih =>
    have e : v / 10 ^ (k + 1) = v / 10 / 10 ^ k := by rw [Nat.pow_succ, Nat.mul_comm, Nat.div_div_eq_div_mul]
    rw [e] at h ⊢
    have hv : v ≠ 0 := by rintro rfl; simp at h
    rw [decs_pos hv, padD, ih _ h]; rfl
theorem padD_mod (k v : Nat) : padD k (v % 10 ^ k) = padD k v := by
  induction k generalizing v with
  | zero => rfl
  | succ k ih =>
    have e1 : v % 10 ^ (k + 1) % 10 = v % 10 := by rw [Nat.pow_succ]; exact Nat.mod_mul_left_mod v (10 ^ k) 10
    have e2 : v % 10 ^ (k + 1) / 10 = v / 10 % 10 ^ k := by rw [Nat.pow_succ, Nat.mul_comm]; exact Nat.mod_mul_right_div_self v 10 (10 ^ k)
    simp only [padD]; rw [e1, e2, ih]
theorem decs_le (k v : Nat) (h : v < 10 ^ k) : (decs v).length ≤ k := by
  induction k generalizing v with
  | zero => have : v = 0 := by simp at h; exact h
            subst this; simp [decs_zero]
  | succ k ih =>
    by_cases hv : v = 0
    · subst hv; simp [decs_zero]
    · rw [decs_pos hv]
      have := ih (v / 10) (by rw [Nat.pow_succ] at h; omega)
      simp only [List.length_cons]; omega
theorem pw_ten (L : Nat) : pw L ≤ ((10 ^ (20 * L) : Nat) : Int) := by
  induction L with
  | zero => decide
  | succ L ih =>
    have e : (10 : Nat) ^ (20 * (L + 1)) = 10 ^ (20 * L) * 100000000000000000000 := by rw [show 20 * (L + 1) = 20 * L + 20 from rfl, Nat.pow_add]
    rw [e, pw_succ, Int.natCast_mul]
    have := pw_pos L
    generalize ((10 ^ (20 * L) : Nat) : Int) = T at *
    generalize pw L = Q at *
    have e2 : ((100000000000000000000 : Nat) : Int) = 100000000000000000000 := rfl
    rw [e2]; omega
theorem decs_val {xs : List Int} (h : AllW xs) : (decs (val xs).toNat).length ≤ 20 * xs.length := by
  refine decs_le _ _ ?_
  have h1 := val_lt h
  have h2 := pw_ten xs.length
  generalize 10 ^ (20 * xs.length) = T at *
  generalize pw xs.length = Q at *
  have := val_nn h
  omega
theorem decs_bd (v : Nat) : ∀ d ∈ decs v, 0 ≤ d ∧ d ≤ 9 := by
  induction v using Nat.strongRecOn with
  | ind v ih =>
    by_cases hv : v = 0
    · subst hv; simp [decs_zero]
    · rw [decs_pos hv]
      intro d hd
      rcases List.mem_cons.1 hd with rfl | hd
      · omega
      · exact ih (v / 10) (by omega) d hd
theorem decs_nil {v : Nat} (h : decs v = []) : v = 0 := by
  by_cases hv : v = 0
  · exact hv
  · rw [decs_pos hv] at h; cases h
/-- What is still to come of a piece: k places are left of it, if it is told whole. -/
def restD (whole : Bool) (k p : Nat) : List Int := if whole = true then padD k p else decs p
theorem restD_end {whole : Bool} {k : Nat} (h : whole = false ∨ k = 0) : restD whole k 0 = [] := by
  unfold restD
  cases whole with
  | false => simp [decs_zero]
  | true => rcases h with h | h
            · cases h
            · subst h; rfl
theorem restD_next {whole : Bool} {k p : Nat} (hp : p < 10 ^ k) (h : p ≠ 0 ∨ (whole = true ∧ k ≠ 0)) : ∃ k', k = k' + 1 ∧ p / 10 < 10 ^ k' ∧ restD whole k p = ((p % 10 : Nat) : Int) :: restD whole k' (p / 10) := by
  have hk : k ≠ 0 := by
    rintro rfl
    simp at hp
    rcases h with h | h
    · exact h hp
    · exact h.2 rfl
  obtain ⟨k', rfl⟩ := Nat.exists_eq_succ_of_ne_zero hk
  refine ⟨k', rfl, by rw [Nat.pow_succ] at hp; omega, ?_⟩
  unfold restD
  cases whole with
  | true => rfl
  | false =>
    have : p ≠ 0 := by rcases h with h | h
                       · exact h
                       · cases h.1
    simp [decs_pos this]
/-- A piece of a number, and what is left of it. -/
theorem decs_piece (v : Nat) : decs v = restD (decide (v / 10 ^ 19 ≠ 0)) 19 (v % 10 ^ 19) ++ decs (v / 10 ^ 19) := by
  by_cases h : v / 10 ^ 19 = 0
  · have hl : v < 10 ^ 19 := (Nat.div_eq_zero_iff_lt (by decide)).1 h
    rw [h, decs_zero, List.append_nil, Nat.mod_eq_of_lt hl]
    simp [restD]
  · rw [decs_split 19 v h]
    have e := padD_mod 19 v
    unfold restD
    rw [if_pos (by simpa using h), e]
end Go.Proofs.YtcakohejaboplaaGreatDoor

namespace Go.Proofs.YtcakohejaboplaaGreatDoor
open Go.RowKit Go.Shelf

/-- A block of words (limbs). -/
def isWd : Obj → Bool
  | .cells _ t _ => t == 94
  | _ => false
/-- From one world to a later one: blocks are laid; of those that lay, only such are turned as p tells, from block B on. -/
structure Turns (p : Obj → Bool) (B : Nat) (W W' : World) : Prop where
  os : W'.os = W.os
  tape : W'.tape = W.tape
  output : W'.output = W.output
  size : W.heap.size ≤ W'.heap.size
  block : ∀ (k : Nat) (o : Obj), W.heap[k]? = some o → (k < B ∨ p o = false) → W'.heap[k]? = some o
theorem Turns.below {p : Obj → Bool} {B : Nat} {W W' : World} (h : Turns p B W W') {B' : Nat} (hB : B' ≤ B) (hs : B' ≤ W.heap.size) : Below B' W W' :=
  ⟨h.os, h.tape, h.output, h.size, fun k hk => by
    have : k < W.heap.size := by omega
    rw [h.block k _ (Array.getElem?_eq_getElem this) (.inl (by omega)), Array.getElem?_eq_getElem this]⟩
theorem Turns.of_below {p : Obj → Bool} {B : Nat} {W W' : World} (h : Below W.heap.size W W') : Turns p B W W' :=
  ⟨h.os, h.tape, h.output, h.size, fun k _ hk _ => (h.block k (Array.getElem?_eq_some_iff.1 hk).1).trans hk⟩
theorem Turns.of_off {p : Obj → Bool} {B g : Nat} {W W' : World} (h : Off g W W') (hg : B ≤ g) (hp : ∀ o, W.heap[g]? = some o → p o = true) : Turns p B W W' :=
  ⟨h.os, h.tape, h.output, by have := h.size; omega, fun k o hk hc => by
    by_cases e : k = g
    · subst e
      rcases hc with hc | hc
      · omega
      · rw [hp o hk] at hc; cases hc
    · exact (h.block k e).trans hk⟩
theorem Turns.imp {p q : Obj → Bool} {B B' : Nat} {W W' : World} (h : Turns p B W W') (hpq : ∀ o, p o = true → q o = true) (hB : B' ≤ B) : Turns q B' W W' :=
  ⟨h.os, h.tape, h.output, h.size, fun k o hk hc => h.block k o hk (by
    rcases hc with hc | hc
    · exact .inl (by omega)
    · right
      cases e : p o with
      | false => rfl
      | true => rw [hpq o e] at hc; cases hc)⟩
theorem Turns.putObj {p : Obj → Bool} {B l : Nat} {W : World} {o : Obj} (o' : Obj) (hl : W.heap[l]? = some o) (hp : p o = true) (hB : B ≤ l) : Turns p B W (W.putObj l o') :=
  ⟨rfl, rfl, rfl, by simp, fun k o2 hk hc => by
    by_cases e : k = l
    · subst e
      rw [hl] at hk; cases hk
      rcases hc with hc | hc
      · omega
      · rw [hp] at hc; cases hc
    · exact (World.putObj_heap_other e).trans hk⟩
theorem Turns.alloc (p : Obj → Bool) (B : Nat) (W : World) (o : Obj) : Turns p B W (W.alloc o) :=
  ⟨rfl, rfl, rfl, by simp, fun k o' hk _ => (Below.heap_alloc W o k (Array.getElem?_eq_some_iff.1 hk).1).trans hk⟩
/-- What the iterator's steps leave as it is. -/
def AbW {β : Type} (B : Nat) (J : β → World → Prop) : Prop := ∀ s W W', J s W → Turns isWd B W W' → J s W'
/-- What abides besides the turn of what is no cells. -/
def isMine (o : Obj) : Bool := isWd o || !o.isCells
def OwnW {β : Type} (B : Nat) (I : β → World → Prop) : Prop := ∀ s W W', I s W → Turns isMine B W W' → I s W'
/-- A round's word: words lie as they lay. -/
structure KeptW (W W' : World) : Prop where
  size : W.heap.size ≤ W'.heap.size
  same : ∀ (k : Nat) (o : Obj), W.heap[k]? = some o → isWd o = true → W'.heap[k]? = some o
theorem KeptW.refl (W : World) : KeptW W W := ⟨Nat.le_refl _, fun _ _ h _ => h⟩
theorem KeptW.trans {A B C : World} (h : KeptW A B) (k : KeptW B C) : KeptW A C := ⟨Nat.le_trans h.size k.size, fun i o hi ho => k.same i o (h.same i o hi ho) ho⟩
theorem KeptW.of_below {W W' : World} (h : Below W.heap.size W W') : KeptW W W' := ⟨h.size, fun k _ hk _ => (h.block k (Array.getElem?_eq_some_iff.1 hk).1).trans hk⟩
theorem isWd_cells {o : Obj} (h : isWd o = true) : o.isCells = true := by cases o <;> simp_all [isWd, Obj.isCells]
theorem KeptW.putObj {W : World} {l : Nat} {o : Obj} (o' : Obj) (h : W.heap[l]? = some o) (hc : isWd o = false) : KeptW W (W.putObj l o') := by
  refine ⟨by simp, fun k o2 hk ho => ?_⟩
  have e : k ≠ l := by
    rintro rfl
    rw [h] at hk; cases hk; rw [ho] at hc; cases hc
  rw [World.putObj_heap_other e]; exact hk
theorem Blk.wd {w : World} {g : Nat} {us : List Int} (h : Blk w g us) : ∀ o, w.heap[g]? = some o → isWd o = true := by
  intro o ho
  have : w.heap[g]? = _ := h
  rw [this] at ho; cases ho; simp [isWd]
theorem Blk.keptW {w w' : World} {g : Nat} {us : List Int} (h : Blk w g us) (k : KeptW w w') : Blk w' g us := k.same g _ h (h.wd _ h)
theorem OwnW.alloc {β : Type} {B : Nat} {I : β → World → Prop} (h : OwnW B I) {s : β} {W : World} (o : Obj) (hs : I s W) : I s (W.alloc o) := h s W _ hs (Turns.alloc _ _ _ _)
theorem OwnW.putObj {β : Type} {B : Nat} {I : β → World → Prop} (h : OwnW B I) {s : β} {W : World} {l : Nat} {o : Obj} (o' : Obj) (hs : I s W) (hB : B ≤ l) (hl : W.heap[l]? = some o) (ho : o.isCells = false) : I s (W.putObj l o') :=
  h s W _ hs (Turns.putObj o' hl (by simp [isMine, ho]) hB)
theorem OwnW.and {β : Type} {B : Nat} {I K : β → World → Prop} (h : OwnW B I) (k : OwnW B K) : OwnW B (fun s W => I s W ∧ K s W) := fun s W W' hs ht => ⟨h s W W' hs.1 ht, k s W W' hs.2 ht⟩
theorem ownW_below {β : Type} {B n : Nat} {w : World} (hn : n ≤ B) (hw : n ≤ w.heap.size) : OwnW B (fun (_ : β) W => Below n w W) :=
  fun _ _ _ hs ht => hs.trans (ht.below hn (Nat.le_trans hw hs.size))
theorem turned_keeps {B : Nat} {W W' : World} (h : Turns isWd B W W') {k : Nat} {o : Obj} (hk : W.heap[k]? = some o) (ho : isWd o = false) : W'.heap[k]? = some o := h.block k o hk (.inr ho)

/-- The contract of an iterator of digits that keeps words of its own between two rounds. -/
def SeqW (F : Fence) (P : Program) (g : Nat) (lb : Array Value) (S Sp : List Int → Prop) (N : Nat) (w : World) : Prop :=
  ∀ (n l : Nat) (J Jx : List Int → World → Prop) (W : World), Below w.heap.size w W → AbW W.heap.size J → AbW W.heap.size Jx →
    (∀ (m : Nat) pre x W1, J pre W1 → 0 ≤ x → x ≤ 9 → pre.length < N → YieldAt F m P l #[.int .i64 x] W1 fun e W' =>
      (e = .returned (.bool true) ∧ J (pre ++ [x]) W' ∧ KeptW W1 W') ∨ (e = .returned (.bool false) ∧ Jx (pre ++ [x]) W')) →
    J [] W →
    CallsIn F n P g (#[.func (.yield l) #[] #[]] ++ lb) W fun e W' => (∃ v, e = .returned v) ∧ ((∃ xs, S xs ∧ J xs W') ∨ (∃ pre, Sp pre ∧ Jx pre W'))
theorem SeqW.inRound {F : Fence} {P : Program} {g : Nat} {lb : Array Value} {S Sp : List Int → Prop} {N : Nat} {w : World} (l : Nat) (h : SeqW F P g lb S Sp N w) : SeqW (F.inRound l) P g lb S Sp N w := h

variable {F : Fence} {n : Nat} {P : Program}
theorem roomN {F : Fence} (hd : F.depth = none) (k : Nat) : F.room k := fun d h => by rw [hd] at h; cases h
theorem roundIn_any {F : Fence} (hd : F.depth = none) {m m' : Nat} {P : Program} {l : Nat} {f : FuncId} {tmps : Array Value} {assign body : Code} {w : World} {R : Ending → World → Prop}
    (h : RoundIn F m P l f tmps assign body w R) : RoundIn F m' P l f tmps assign body w R := ⟨h.1, fun c cs _ => h.2 c cs (roomN hd _)⟩
theorem yieldAt_any {F : Fence} (hd : F.depth = none) {m : Nat} (m' : Nat) {P : Program} {l : Nat} {args : Array Value} {W : World} {R : Ending → World → Prop} (h : YieldAt F m P l args W R) : YieldAt F m' P l args W R := by
  obtain ⟨fn, tmps, assign, body, hy, hR⟩ := h
  exact ⟨fn, tmps, assign, body, hy, roundIn_any hd hR⟩

/-- What a loop's body leaves behind it, by the way in which it is left; l: the loop's record, B: from where on what is no cells lies still. -/
def Left (B : Nat) (I : List Int → World → Prop) (Ix : Code → List Int → World → Prop) (xs : List Int) (W : World) : Exit → Act → World → Prop
  | .normal, _, W' => KeepsFrom B W W' ∧ KeptW W W' ∧ I xs W'
  | .ret, _, W' => KeepsFrom B W W' ∧ Ix .ret xs W'
  | .exit id, _, W' => KeepsFrom B W W' ∧ Ix (.exit id) xs W'
  | .goto t, _, W' => KeepsFrom B W W' ∧ Ix (.goto t) xs W'
  | _, _, _ => False

section loop
variable {g : Operand} {ps : Array Tmp} {assign body : Code} {a : Act} {gf : Nat} {lb : Array Value} {S Sp : List Int → Prop} {N B l dl : Nat} {w0 W1 : World} {fn : FuncId}
  {I : List Int → World → Prop} {Ix : Code → List Int → World → Prop} {a₁ : Int → Act}

/-- The record of the loop. -/
def recd (fn : FuncId) (tmps : Array Value) (ps : Array Tmp) (assign body : Code) (dl : Nat) (st : LoopState) (pe : Option Code) : Obj :=
  .loop { state := st, pending := pe, fn, tmps, params := ps, assign, body, defers := dl }

/-- The loop's rounds, the iterator going on between them with words of its own. -/
theorem rounds (hseq : SeqW F P gf lb S Sp N w0) (hfn : F.fn fn) (hps : ps.size = 1) (hw : Below w0.heap.size w0 W1) (hB : B ≤ l)
    (hl : W1.heap[l]? = some (recd fn a.tmps ps assign body dl .ready none)) (hI : OwnW l I) (hIx : ∀ c, OwnW l (Ix c)) (h0 : I [] W1)
    (hassign : ∀ (m : Nat) (x : Int) (W : World) (K : Act → World → Prop), K (a₁ x) W →
      assign.wpIn (F.inRound l) m P (Exit.then K (fun _ _ _ => False)) { tmps := (ps.zip #[Value.int .i64 x]).foldl (fun t (p, v) => t.setIfInBounds p v) a.tmps, defers := [] } W)
    (hbody : ∀ (m : Nat) (pre : List Int) (x : Int) (W : World), (∃ r, W.heap[l]? = some (.loop r)) → I pre W → 0 ≤ x → x ≤ 9 → pre.length < N → body.wpIn (F.inRound l) m P (Left B I Ix (pre ++ [x]) W) (a₁ x) W) :
    CallsIn F n P gf (#[.func (.yield l) #[] #[]] ++ lb) W1 fun e W2 => (∃ v, e = .returned v) ∧
      ((∃ xs, S xs ∧ I xs W2 ∧ W2.heap[l]? = some (recd fn a.tmps ps assign body dl .ready none)) ∨
       (∃ c pre, Sp pre ∧ Ix c pre W2 ∧ W2.heap[l]? = some (recd fn a.tmps ps assign body dl .done (some c)))) := by
  have hlt1 : l < W1.heap.size := (Array.getElem?_eq_some_iff.1 hl).1
  have mine : ∀ {A C : World}, Turns isWd W1.heap.size A C → Turns isMine l A C := fun t => t.imp (fun o ho => by simp [isMine, ho]) (by omega)
  have still : ∀ {A C : World} {st pe}, Turns isWd W1.heap.size A C → A.heap[l]? = some (recd fn a.tmps ps assign body dl st pe) → C.heap[l]? = some (recd fn a.tmps ps assign body dl st pe) :=
    fun t h => t.block l _ h (.inr rfl)
  refine (hseq n l (fun pre W => I pre W ∧ W.heap[l]? = some (recd fn a.tmps ps assign body dl .ready none))
    (fun pre W => ∃ c, Ix c pre W ∧ W.heap[l]? = some (recd fn a.tmps ps assign body dl .done (some c))) W1 hw
    (fun s A C h t => ⟨hI s A C h.1 (mine t), still t h.2⟩) (fun s A C ⟨c, h1, h2⟩ t => ⟨c, hIx c s A C h1 (mine t), still t h2⟩) ?_ ⟨h0, hl⟩).mono ?_
  · rintro m pre x W ⟨hi, hr⟩ x0 x9 hlen
    have busy : (W.putObj l (recd fn a.tmps ps assign body dl .busy none)).heap[l]? = some (recd fn a.tmps ps assign body dl .busy none) := World.putObj_heap_same (Array.getElem?_eq_some_iff.1 hr).1
    have hy := run_yield (P := P) (args := #[Value.int .i64 x]) hr (by simp [hps])
    refine ⟨fn, _, assign, body, hy, roundIn_of_wpIn hfn (hassign m x W _ ⟨_, run_beginRound hr rfl, ?_⟩)⟩
    have hk0 : KeptW W (W.putObj l (recd fn a.tmps ps assign body dl .busy none)) := KeptW.putObj _ hr rfl
    refine wpIn_mono (hbody m pre x (W.putObj l (recd fn a.tmps ps assign body dl .busy none)) ⟨_, busy⟩ (hI.putObj _ hi (Nat.le_refl _) hr rfl) x0 x9 hlen) ?_
    -- how the record lies behind the body, and behind the round
    have after : ∀ {W3 : World} (j : Option Code), KeepsFrom B (W.putObj l (recd fn a.tmps ps assign body dl .busy none)) W3 →
        W3.heap[l]? = some (recd fn a.tmps ps assign body dl .busy none) ∧
        (Instr.endRound l j).run P W3 = .ok (.bool j.isNone) (W3.putObj l (recd fn a.tmps ps assign body dl (if j.isNone then .ready else .done) j)) ∧
        (W3.putObj l (recd fn a.tmps ps assign body dl (if j.isNone then .ready else .done) j)).heap[l]? = some (recd fn a.tmps ps assign body dl (if j.isNone then .ready else .done) j) := by
      intro W3 j hk
      have h3 := hk.same l _ hB busy rfl
      exact ⟨h3, run_endRound j h3, World.putObj_heap_same (Array.getElem?_eq_some_iff.1 h3).1⟩
    intro e a3 W3 hp
    have away : ∀ c, KeepsFrom B (W.putObj l (recd fn a.tmps ps assign body dl .busy none)) W3 ∧ Ix c (pre ++ [x]) W3 →
        ∃ v w', (Instr.endRound l (some c)).run P W3 = .ok v w' ∧ ((Ending.returned v = .returned (.bool true) ∧ (I (pre ++ [x]) w' ∧ w'.heap[l]? = some (recd fn a.tmps ps assign body dl .ready none)) ∧ KeptW W w') ∨
          (Ending.returned v = .returned (.bool false) ∧ ∃ c, Ix c (pre ++ [x]) w' ∧ w'.heap[l]? = some (recd fn a.tmps ps assign body dl .done (some c)))) := by
      rintro c ⟨h1, h2⟩
      obtain ⟨p1, p2, p3⟩ := after (some c) h1
      exact ⟨_, _, p2, .inr ⟨rfl, c, (hIx c).putObj _ h2 (Nat.le_refl _) p1 rfl, p3⟩⟩
    cases e with
    | normal =>
      obtain ⟨h1, h2, h3⟩ := hp
      obtain ⟨p1, p2, p3⟩ := after none h1
      exact ⟨_, _, p2, .inl ⟨rfl, ⟨hI.putObj _ h3 (Nat.le_refl _) p1 rfl, p3⟩, (hk0.trans h2).trans (KeptW.putObj _ p1 rfl)⟩⟩
    | ret => exact away _ hp
    | exit id => exact away _ hp
    | goto t => exact away _ hp
    | panic ch => exact hp.elim
    | outgrown => exact hp.elim
  · rintro e W2 ⟨hv, ⟨xs, h1, h2, h3⟩ | ⟨pre, h1, c, h2, h3⟩⟩
    · exact ⟨hv, .inl ⟨xs, h1, h2, h3⟩⟩
    · exact ⟨hv, .inr ⟨c, pre, h1, h2, h3⟩⟩

set_option maxHeartbeats 100000 in
/-- A range over an iterator with words of its own, in no other's round. -/
theorem range_out {Q : Exit → Act → World → Prop} {w : World} (hro : F.round = none) (hd : F.depth = none) (hg : a.eval g = .func (.func gf) #[] lb) (hFg : F.fn gf) (eg : ∀ args w, (callFunc gf args).run P w = .ok (.enter gf args) w)
    (hseq : SeqW F P gf lb S Sp N w0) (hw : Below w0.heap.size w0 w) (hps : ps.size = 1)
    (I : List Int → World → Prop) (Ix : Code → List Int → World → Prop) (hI : OwnW w.heap.size I) (hIx : ∀ c, OwnW w.heap.size (Ix c)) (h0 : I [] w) (a₁ : Int → Act)
    (hassign : ∀ (l m : Nat) (x : Int) (W : World) (K : Act → World → Prop), K (a₁ x) W →
      assign.wpIn (F.inRound l) m P (Exit.then K (fun _ _ _ => False)) { tmps := (ps.zip #[Value.int .i64 x]).foldl (fun t (p, v) => t.setIfInBounds p v) a.tmps, defers := [] } W)
    (hbody : ∀ (l m : Nat) (pre : List Int) (x : Int) (W : World), (∃ r, W.heap[l]? = some (.loop r)) → w.heap.size ≤ l → I pre W → 0 ≤ x → x ≤ 9 → pre.length < N → body.wpIn (F.inRound l) m P (Left w.heap.size I Ix (pre ++ [x]) W) (a₁ x) W)
    (hdone : ∀ (D : Nat) (xs : List Int) (W : World), w.heap.size ≤ D → S xs → I xs W → W.heap[D]? = some (.deferred (some [])) → Q .normal { a with defers := { target := .collected D, args := #[] } :: a.defers } W)
    (hstop : ∀ (D : Nat) (c : Code) (pre : List Int) (W : World), w.heap.size ≤ D → Sp pre → Ix c pre W → W.heap[D]? = some (.deferred (some [])) → c.wpIn F n P Q { a with defers := { target := .collected D, args := #[] } :: a.defers } W) :
    (Code.rangeFunc g ps assign body).wpIn F n P Q a w := by
  refine wpIn_rangeFunc fun fn hfn => ?_
  obtain ⟨W1, hW1⟩ : ∃ W1, (w.alloc (.deferred (some []))).alloc (recd fn a.tmps ps assign body w.heap.size .ready none) = W1 := ⟨_, rfl⟩
  have hWd : W1.heap[w.heap.size]? = some (.deferred (some [])) := by
    rw [← hW1]; exact (Below.heap_alloc _ _ _ (by simp)).trans (World.alloc_heap_new w _)
  have hWl : W1.heap[w.heap.size + 1]? = some (recd fn a.tmps ps assign body w.heap.size .ready none) := by
    rw [← hW1]
    have := World.alloc_heap_new (w.alloc (.deferred (some []))) (recd fn a.tmps ps assign body w.heap.size .ready none)
    rwa [World.size_alloc] at this
  have up : ∀ {J : List Int → World → Prop}, OwnW w.heap.size J → OwnW (w.heap.size + 1) (fun pre W => J pre W ∧ W.heap[w.heap.size]? = some (.deferred (some []))) :=
    fun h s A C k t => ⟨h s A C k.1 (t.imp (fun _ ho => ho) (by omega)), t.block _ _ k.2 (.inl (by omega))⟩
  have hdef : ∀ {A C : World}, KeepsFrom w.heap.size A C → A.heap[w.heap.size]? = some (.deferred (some [])) → C.heap[w.heap.size]? = some (.deferred (some [])) := fun k h => k.same _ _ (Nat.le_refl _) h rfl
  have hWI : I [] W1 := by rw [← hW1]; exact hI.alloc _ (hI.alloc _ h0)
  have hWb : Below w0.heap.size w0 W1 := by
    rw [← hW1]; exact hw.trans ((((Below.refl _ w).alloc (Nat.le_refl _) _).alloc (by simp) _).mono hw.size)
  have hcall := rounds (a := a) (n := n - 1) (B := w.heap.size) (I := fun pre W => I pre W ∧ W.heap[w.heap.size]? = some (.deferred (some []))) (Ix := fun c pre W => Ix c pre W ∧ W.heap[w.heap.size]? = some (.deferred (some []))) (a₁ := a₁) hseq hfn hps
    hWb (by omega) hWl (up hI) (fun c => up (hIx c)) ⟨hWI, hWd⟩ (hassign _)
    (fun m pre x W hr hi x0 x9 hlen => wpIn_mono (hbody _ m pre x W hr (by omega) hi.1 x0 x9 hlen) (fun e a3 W3 hp => by
      cases e with
      | normal => exact ⟨hp.1, hp.2.1, hp.2.2, hdef hp.1 hi.2⟩
      | ret => exact ⟨hp.1, hp.2, hdef hp.1 hi.2⟩
      | exit id => exact ⟨hp.1, hp.2, hdef hp.1 hi.2⟩
      | goto t => exact ⟨hp.1, hp.2, hdef hp.1 hi.2⟩
      | panic ch => exact hp.elim
      | outgrown => exact hp.elim))
  refine ⟨w.heap.size + 1, [{ target := .collected w.heap.size, args := #[] }], W1, { target := .fn (.func gf) lb, args := #[.func (.yield (w.heap.size + 1)) #[] #[]] }, W1, gf, #[.func (.yield (w.heap.size + 1)) #[] #[]] ++ lb, W1, ?_, ?_, ?_, ?_, ?_, ?_⟩
  · rw [hro, ← hW1]; exact run_enterLoop_outer _ _ _ _ _
  · simp only [resolve, hg]
    simp [go_sem]
  · intro f' hf'
    simp [Target.leads] at hf'; subst hf'; exact hFg
  · simp [invoke, go_sem, eg]
  · intro h
    rw [hd] at h; cases h
  refine hcall.mono ?_
  rintro e W2 ⟨⟨v, rfl⟩, ⟨xs, hS, hi, hl⟩ | ⟨c, pre, hS, hi, hl⟩⟩
  · have h1 := run_endLoop (P := P) hl (by simp)
    exact ⟨none, _, h1, hdone _ xs _ (Nat.le_refl _) hS (hI.putObj _ hi.1 (by omega) hl rfl) ((World.putObj_heap_other (by omega)).trans hi.2)⟩
  · have h1 := run_endLoop (P := P) hl (by simp)
    exact ⟨some c, _, h1, hstop _ c pre _ (Nat.le_refl _) hS ((hIx c).putObj _ hi.1 (by omega) hl rfl) ((World.putObj_heap_other (by omega)).trans hi.2)⟩
end loop
end Go.Proofs.YtcakohejaboplaaGreatDoor

namespace Go.Proofs.YtcakohejaboplaaGreatDoor
open Go.RowKit Go.Shelf
attribute [local go_sem] Oper.semAt_some

end Go.Proofs.YtcakohejaboplaaGreatDoor

namespace Go.Proofs.YtcakohejaboplaaGreatDoor
open Go.RowKit

set_option maxHeartbeats 1000000 in
theorem cutrow_any (g n cap : Nat) (us : List Int) (d : Int) (w : World) (hb : Row w g cap us) (hfit : n ≤ us.length) (hm : us.length ≤ 1099511627776) (hu : AllW us) (hd0 : 0 < d) (hd1 : d < 18446744073709551616) :
    Calls Tryz.prog 121 #[.slice (some ⟨g, 0, none⟩) n cap, .int .u64 d] w fun e w' => e = .returned (.int .u64 (cutR us n d n).2) ∧ Row w' g cap (cutR us n d n).1 ∧ Off g w w' := by
  go_enter Tryz.func121, Tryz.ntmps121
  go_wp2
  go_loopw [5, 6] (fun c i wr => ∃ j : Nat, j ≤ n ∧ i = .int .i64 ((n : Int) - 1 - j) ∧ c = .int .u64 (cutR us n d j).2 ∧ Row wr g cap (cutR us n d j).1 ∧ Off g w wr) (fun _ i _ => (intOf i + 1).toNat)
  case atStart => exact ⟨0, Nat.zero_le _, by go_num, rfl, hb, Off.refl _ _⟩
  case round =>
    obtain ⟨j, hj, rfl, rfl, hbr, hoff⟩ := hrel
    obtain ⟨ok1, ok2, ok3, ok4⟩ := cutR_ok n hu hd0 j
    by_cases hlt : j < n
    · have HN : Hid (cutR us n d (j + 1) = ((cutR us n d j).1.set (n - 1 - j) (((cutR us n d j).2 * 18446744073709551616 + lm (cutR us n d j).1 (n - 1 - j)) / d), ((cutR us n d j).2 * 18446744073709551616 + lm (cutR us n d j).1 (n - 1 - j)) % d)) := rfl
      generalize hU : (cutR us n d j).1 = U at *
      generalize hC : (cutR us n d j).2 = C at *
      clear hU hC
      obtain ⟨i, hi⟩ : ∃ i, n - 1 - j = i := ⟨_, rfl⟩
      rw [hi] at HN
      have hij : (n : Int) - 1 - j = i := by omega
      have hcg := hbr.cell (i := i) (by omega)
      have hfg := hbr.frozen i
      obtain ⟨a10, a11⟩ := ok1.at i
      obtain ⟨qa, qb⟩ := quo_lt ok3 ok4 a10 a11
      generalize hX : lm U i = X at *
      have HI : Hid ((n : Int) - 1 - j = i) := hij
      have hin : (i : Int) < n := by omega
      have hjn : (j : Int) + 1 + i = n := by omega
      rw [hij]
      clear hX hij hb hi
      go_wp2_with fail
      refine (div64_any C X d wr ok3 a10 a11 ok4 hd1).mono ?_
      rintro e w1 ⟨rfl, m, rfl⟩
      have hfg2 : (wr.drewN m).frozen? ⟨g, i, none⟩ = false := (hbr.drewN m).frozen i
      have HB := (hbr.drewN m).set i ((C * 18446744073709551616 + X) / d)
      have HO := (hoff.drewN m).set i (.int .u64 ((C * 18446744073709551616 + X) / d))
      generalize hq : (C * 18446744073709551616 + X) / d = q at *
      generalize hr : (C * 18446744073709551616 + X) % d = r at *
      generalize hw2 : wr.drewN m = W2 at *
      have hcg2 : W2.cell? ⟨g, i, none⟩ = some (.int .u64 X) := by rw [← hw2]; simpa using hcg
      clear hw2 hq hr hbr hoff hcg hfg
      go_wp2
      go_roundw
      case rel => exact ⟨j + 1, by omega, by go_num, by rw [HN.out], by rw [HN.out]; exact HB, HO⟩
      case measure => simp [intOf]
    · obtain rfl : j = n := by omega
      go_wp2
      go_ret
      exact ⟨rfl, hbr, hoff⟩

/-- What cut makes of a number: its quotient; the rest. -/
theorem cutR_low (us : List Int) (n : Nat) (d : Int) (j i : Nat) (h : i + j < n) : lm (cutR us n d j).1 i = lm us i := by
  induction j with
  | zero => rfl
  | succ j ih => simp only [cutR]; rw [lm_set, if_neg (by omega), ih (by omega)]
theorem div_mul (t d P : Int) : t / d * P * d + t % d * P = t * P := by
  have h : t = t / d * d + t % d := by rw [Int.mul_comm]; exact (Int.mul_ediv_add_emod t d).symm
  have e : t / d * P * d = t / d * d * P := Int.mul_right_comm _ _ _
  rw [e, ← Int.add_mul, ← h]
theorem cutR_val {us : List Int} {d : Int} (n : Nat) (hu : AllW us) (hd : 0 < d) (hn : n ≤ us.length) (j : Nat) (hj : j ≤ n) :
    (vS (cutR us n d j).1 n - vS us (n - j)) * d + (cutR us n d j).2 * pw (n - j) = vS us n - vS us (n - j) := by
  induction j with
  | zero => simp [cutR]
  | succ j ih =>
    have ih := ih (by omega)
    obtain ⟨h1, h2, h3, h4⟩ := cutR_ok (us := us) n hu hd j
    have hl := cutR_low us n d j (n - 1 - j) (by omega)
    simp only [cutR]
    generalize (cutR us n d j).1 = U at *
    generalize (cutR us n d j).2 = C at *
    rw [vS_set _ (by omega) (by omega), hl]
    obtain ⟨m, hm⟩ : ∃ m, n - j = m + 1 := ⟨n - j - 1, by omega⟩
    have em : n - (j + 1) = m := by omega
    have em2 : n - 1 - j = m := by omega
    rw [hm] at ih
    rw [em, em2]
    simp only [vS] at ih
    rw [pw_succ] at ih
    have e1 := div_mul (C * 18446744073709551616 + lm us m) d (pw m)
    rw [Int.add_mul (C * 18446744073709551616)] at e1
    have e2 : C * (pw m * 18446744073709551616) = C * 18446744073709551616 * pw m := by rw [Int.mul_comm (pw m), Int.mul_assoc]
    rw [e2] at ih
    have e3 : (vS U n + ((C * 18446744073709551616 + lm us m) / d - lm us m) * pw m - vS us m) * d = (vS U n - (vS us m + lm us m * pw m)) * d + (C * 18446744073709551616 + lm us m) / d * pw m * d := by
      rw [← Int.add_mul]
      congr 1
      rw [Int.sub_mul]
      omega
    rw [e3]
    generalize (vS U n - (vS us m + lm us m * pw m)) * d = A at *
    omega
theorem cutR_end {us : List Int} {d : Int} (hu : AllW us) (hd : 0 < d) : AllW (cutR us us.length d us.length).1 ∧ (cutR us us.length d us.length).1.length = us.length ∧ val (cutR us us.length d us.length).1 = val us / d ∧ (cutR us us.length d us.length).2 = val us % d := by
  obtain ⟨h1, h2, h3, h4⟩ := cutR_ok (us := us) us.length hu hd us.length
  have hv := cutR_val us.length hu hd (Nat.le_refl _) us.length (Nat.le_refl _)
  rw [Nat.sub_self, pw_zero] at hv
  simp only [vS] at hv
  have e1 : vS (cutR us us.length d us.length).1 us.length = val (cutR us us.length d us.length).1 := vS_long (by omega)
  have e2 : vS us us.length = val us := rfl
  rw [e1, e2] at hv
  obtain ⟨u1, u2⟩ := div_unique (x := val us) (y := d) (q := val (cutR us us.length d us.length).1) (r := (cutR us us.length d us.length).2) (by simp at hv; omega) h3 h4
  exact ⟨h1, h2, u1.symm, u2.symm⟩
end Go.Proofs.YtcakohejaboplaaGreatDoor

namespace Go.Proofs.YtcakohejaboplaaGreatDoor
open Go.RowKit Go.Shelf
attribute [local go_sem] Oper.semAt_some

/-- What the first limbs of a block tell, read off the world: for a loop's measure. -/
def cellD (w : World) (g i : Nat) : Int := match w.cell? ⟨g, i, none⟩ with | some (.int _ z) => z | _ => 0
def vC (w : World) (g : Nat) : Nat → Int
  | 0 => 0
  | n + 1 => vC w g n + cellD w g n * pw n
theorem vC_blk {w : World} {g : Nat} {us : List Int} (h : Blk w g us) (n : Nat) (hn : n ≤ us.length) : vC w g n = vS us n := by
  induction n with
  | zero => rfl
  | succ n ih =>
    have e : cellD w g n = lm us n := by unfold cellD; rw [h.cell (by omega)]
    simp only [vC, vS]; rw [ih (by omega), e]
def leftW (wr : World) (r : Value) : Nat := match r with | .slice (some p) n _ => (vC wr p.block n).toNat | _ => 0
theorem leftW_blk {w : World} {g : Nat} {us : List Int} (h : Blk w g us) (n cap : Nat) (hn : n ≤ us.length) : leftW w (.slice (some ⟨g, 0, none⟩) n cap) = (vS us n).toNat := by
  show (vC w g n).toNat = _
  rw [vC_blk h n hn]

/-- One piece cut off the first n limbs: the piece, and what is left. -/
theorem cut_piece {us : List Int} (n : Nat) (hu : AllW us) (hn : n ≤ us.length) :
    (cutR us n 10000000000000000000 n).2.toNat = (vS us n).toNat % 10 ^ 19 ∧ (vS (cutR us n 10000000000000000000 n).1 n).toNat = (vS us n).toNat / 10 ^ 19 ∧ 0 ≤ (cutR us n 10000000000000000000 n).2 ∧ (cutR us n 10000000000000000000 n).2 < 10000000000000000000 := by
  have h := cutR_val (d := 10000000000000000000) n hu (by decide) hn n (Nat.le_refl _)
  obtain ⟨h1, h2, h3, h4⟩ := cutR_ok (us := us) n (d := 10000000000000000000) hu (by decide) n
  rw [Nat.sub_self] at h
  simp only [vS, pw_zero] at h
  have v0 := (vS_nn hu n).1
  have v1 := (vS_nn h1 n).1
  generalize (cutR us n 10000000000000000000 n).1 = U at *
  generalize (cutR us n 10000000000000000000 n).2 = C at *
  generalize vS U n = q at *
  generalize vS us n = v at *
  have e : (10 : Nat) ^ 19 = 10000000000000000000 := by decide
  rw [e]
  omega

end Go.Proofs.YtcakohejaboplaaGreatDoor

namespace Go.Proofs.YtcakohejaboplaaGreatDoor
open Go.RowKit Go.Shelf

theorem adr_ne {g i k : Nat} (h : i ≠ k) : (⟨g, i, none⟩ : Addr) ≠ ⟨g, k, none⟩ := by
  intro e
  injection e with _ e2
  exact h e2
/-- Turned round up to a place from both ends. -/
def revF (f : Nat → Int) (L i k : Nat) : Int := if k < i ∨ L ≤ k + i then f (L - 1 - k) else f k
end Go.Proofs.YtcakohejaboplaaGreatDoor

namespace Go.Proofs.YtcakohejaboplaaGreatDoor
open Go.RowKit Go.Shelf
attribute [local go_sem] Oper.semAt_some

theorem KeptW.grown {W W' : World} {row : Option Nat} (hg : W.grownBy W' row) (hr : ∀ (j : Nat) (o : Obj), row = some j → W.heap[j]? = some o → isWd o = false) : KeptW W W' :=
  ⟨hg.size, fun k o hk ho => (hg.block k (Array.getElem?_eq_some_iff.1 hk).1 (fun e => by rw [hr k o e.symm hk] at ho; cases ho)).trans hk⟩
/-- Words lie as they lay behind an append to a list of others in a variable's box. -/
theorem keptW_appended {W w1 : World} {n₀ B : Nat} {t e : TypeId} {v v' : Value} {k : Nat} {xs : List Value} {tmp : Obj} (hv : Boxed w1 B t v) (ht : t ≠ 94) (he : e ≠ 94)
    (hrow : W.ownsRow n₀ e 1 v k xs) (hgrow : (W.alloc tmp).grownBy w1 v.ownBlock) : KeptW W (w1.setCell ⟨B, 0, none⟩ v') := by
  refine ((KeptW.of_below ((Below.refl _ _).alloc (Nat.le_refl _) tmp)).trans (KeptW.grown hgrow fun j o ej hj => ?_)).trans (KeptW.grown (grownBy_setCell' w1 B v') fun j o ej hj => ?_)
  · rcases (hrow.alloc tmp).2 with ⟨rfl, _⟩ | ⟨g, cap, cur, rfl, _, hgb, _⟩
    · simp [Value.ownBlock] at ej
    · obtain rfl : g = j := by simpa [Value.ownBlock] using ej
      rw [hgb] at hj; cases hj; simpa [isWd] using he
  · cases ej
    rw [show w1.heap[B]? = _ from hv] at hj; cases hj; simpa [isWd] using ht
/-- A list of others than words, in a box that lay already, is not turned by an iterator of words. -/
theorem ownW_row {β : Type} {n₀ B D : Nat} {t e : TypeId} (he : e ≠ 94) (hB : B < D) (k : β → Nat) (f : β → List Value) (G : β → Value → Prop) : OwnW D (fun s W => ∃ v, Boxed W B t v ∧ W.ownsRow n₀ e 1 v (k s) (f s) ∧ G s v) := by
  rintro s X Y ⟨v, hv, hr, hG⟩ ht
  refine ⟨v, ht.block B _ hv (.inl hB), ⟨hr.1, ?_⟩, hG⟩
  rcases hr.2 with hn | ⟨g, cap, cur, e1, e2, hgb, rest⟩
  · exact .inl hn
  · exact .inr ⟨g, cap, cur, e1, e2, ht.block g _ hgb (.inr (by simpa [isMine, isWd, Obj.isCells] using he)), rest⟩

/-- Its text. -/
def txt (v : Nat) : ByteArray := if v = 0 then strOfNums [48] else strOfNums ((decs v).map (48 + ·)).reverse
theorem Tryz.infoU8 : (Tryz.prog.info? 5).map (fun i => (i.zero, i.size, i.bytes)) = some (some (.int .u8 0), 1, 1) := by kernel_rfl

end Go.Proofs.YtcakohejaboplaaGreatDoor

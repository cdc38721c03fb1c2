import Derived.Test.YtfelogbfijomiaaDoorRows
import Derived.WalkKit
import Derived.WalkSpells
import Derived.WalkLawsBesides
import Derived.Outline
import Derived.Deep.QuietTactic
import Derived.BigQuiet
import Derived.Deep.RegionWith
import Derived.Deep.RegionHeld3
import Derived.Handy
import Derived.Laws.CopyOwn
import Derived.Laws.Externs
import Derived.Shelf.Spec.BitsCarry
import Derived.Laws.OwnMore
import Derived.Shelf.Bits.Mul64
import Derived.Shelf.Strconv.Itoa0
import Derived.Laws.Bits64b
import Derived.Deep.AppendLies
import Derived.RangeFuncNested
import Derived.RangeFuncBound
import Derived.RangeFuncCalls
import Derived.RangeFuncLeaves
import Derived.Shelf.Abstract
import Derived.Shelf.RegionOpen
import Derived.OwnWalkIn
import Derived.TacticsInMore
import Derived.LoopNIn
import Derived.LoopIn
import Derived.Maps.AppendAt
namespace Go.Proofs.YtfelogbfijomiaaDoor
open Go.RowKit

/-- A word. -/
def Word (x : Int) : Prop := 0 ≤ x ∧ x < 18446744073709551616

/-- The limb at a place (nought beyond the end). -/
def lm (xs : List Int) (i : Nat) : Int := xs.getD i 0

/-- The cells from an address on hold the numbers xs (an address is asked for only where there is a number). -/
def Reads (w : World) (a : Option Addr) (xs : List Int) : Prop :=
  xs = [] ∨ ∃ b o, a = some ⟨b, o, none⟩ ∧ ∀ i, i < xs.length → w.cell? ⟨b, o + i, none⟩ = some (.int .u64 (lm xs i))

/-- How many limbs of the first n are left without the noughts at the end. -/
def tl (xs : List Int) : Nat → Nat
  | 0 => 0
  | n + 1 => if lm xs n = 0 then tl xs n else n + 1
theorem tl_le (xs : List Int) (n : Nat) : tl xs n ≤ n := by
  induction n with
  | zero => simp [tl]
  | succ n ih => unfold tl; split <;> omega
/-- The length of what is left. -/
def tlen (xs : List Int) : Nat := tl xs xs.length
def trimL (xs : List Int) : List Int := xs.take (tlen xs)

theorem ret_slice {a : Option Addr} {n m c : Nat} (h : n = m) : Ending.returned (.slice a n c) = .returned (.slice a m c) := by rw [h]
theorem ret_int {k : IntKind} {a b : Int} (h : a = b) : Ending.returned (.int k a) = .returned (.int k b) := by rw [h]

/-- What 'order' tells, under a name. -/
def ordI (b : Bool) : Int := if b then -1 else 1
theorem order_any (b : Bool) (w : World) : Calls Tryd.prog 75 #[.bool b] w fun e w' => e = .returned (.int .i64 (ordI b)) ∧ w = w' := by
  cases b
  all_goals
    go_enter Tryd.func75, Tryd.ntmps75
    go_wp2
    go_ret
    exact ⟨rfl, rfl⟩

set_option maxHeartbeats 400000 in
theorem trim_none (a : Option Addr) (cap : Nat) (w : World) : Calls Tryd.prog 73 #[.slice a 0 cap] w fun e w' => e = .returned (.slice a 0 cap) ∧ w = w' := by
  go_enter Tryd.func73, Tryd.ntmps73
  go_wp2
  go_loop [3] (fun i => i = .int .i64 0) (fun _ => 0)
  case atStart => rfl
  case round =>
    subst hrel
    go_wp2
    go_ret
    exact ⟨by simp, rfl⟩

set_option maxHeartbeats 400000 in
theorem trim_some (b o cap : Nat) (xs : List Int) (w : World) (hl : xs.length ≤ cap) (hm : xs.length ≤ 1099511627776) (hc : ∀ i, i < xs.length → w.cell? ⟨b, o + i, none⟩ = some (.int .u64 (lm xs i))) :
    Calls Tryd.prog 73 #[.slice (some ⟨b, o, none⟩) xs.length cap] w fun e w' => e = .returned (.slice (some ⟨b, o, none⟩) (tlen xs) cap) ∧ w = w' := by
  go_enter Tryd.func73, Tryd.ntmps73
  go_wp2
  go_loop [3] (fun i => ∃ k : Nat, k ≤ xs.length ∧ i = .int .i64 k ∧ tl xs k = tlen xs) (fun i => (intOf i).toNat)
  case atStart => exact ⟨_, Nat.le_refl _, rfl, rfl⟩
  case round =>
    obtain ⟨k, hk, rfl, ht⟩ := hrel
    have HT : Hid (tl xs k = tlen xs) := ht
    clear ht
    by_cases hk0 : k = 0
    · subst hk0
      go_wp2
      go_ret
      exact ⟨ret_slice HT.out, rfl⟩
    · obtain ⟨j, rfl⟩ : ∃ j, k = j + 1 := ⟨k - 1, by omega⟩
      have hcj := hc j (by omega)
      by_cases hz : lm xs j = 0
      · have HT2 : Hid (tl xs j = tlen xs) := by have := HT.out; unfold tl at this; rw [if_pos hz] at this; exact this
        rw [hz] at hcj
        clear hz
        go_wp2
        go_round
        case rel => exact ⟨j, by omega, by go_num, HT2.out⟩
        case measure => simp [intOf]
      · have HT2 : Hid (j + 1 = tlen xs) := by have := HT.out; unfold tl at this; rw [if_neg hz] at this; exact this
        have hzb : (lm xs j == 0) = false := by simpa using hz
        clear hz
        go_wp2
        go_ret
        exact ⟨ret_slice HT2.out, rfl⟩

theorem trim_any (a : Option Addr) (n cap : Nat) (xs : List Int) (w : World) (hn : n = xs.length) (hl : n ≤ cap) (hm : n ≤ 1099511627776) (hr : Reads w a xs) :
    Calls Tryd.prog 73 #[.slice a n cap] w fun e w' => e = .returned (.slice a (tlen xs) cap) ∧ w = w' := by
  subst hn
  rcases hr with rfl | ⟨b, o, rfl, hc⟩
  · exact trim_none a cap w
  · exact trim_some b o cap xs w hl hm hc
end Go.Proofs.YtfelogbfijomiaaDoor

namespace Go.Proofs.YtfelogbfijomiaaDoor
open Go.RowKit

/-- Block g holds the words us, all of it. -/
def Blk (w : World) (g : Nat) (us : List Int) : Prop := w.heap[g]? = some (.cells (us.map (Value.int .u64)).toArray 64 (0, 0))
/-- w' is w but for block g. -/
structure Off (g : Nat) (w w' : World) : Prop where
  os : w'.os = w.os
  tape : w'.tape = w.tape
  output : w'.output = w.output
  size : w'.heap.size = w.heap.size
  block : ∀ k, k ≠ g → w'.heap[k]? = w.heap[k]?

theorem lm_lt {us : List Int} {i : Nat} (h : i < us.length) : us[i]? = some (lm us i) := by simp [lm, List.getElem?_eq_getElem h]
theorem lm_ge {us : List Int} {i : Nat} (h : us.length ≤ i) : lm us i = 0 := by simp [lm, List.getElem?_eq_none h]
theorem lm_set (us : List Int) (i j : Nat) (z : Int) : lm (us.set i z) j = if i = j ∧ j < us.length then z else lm us j := by
  unfold lm
  simp only [List.getD_eq_getElem?_getD, List.getElem?_set]
  by_cases h : i = j
  · subst h
    by_cases h2 : i < us.length <;> simp [h2]
  · simp [h]
theorem lm_take {us : List Int} {n i : Nat} (h : i < n) : lm (us.take n) i = lm us i := by simp [lm, List.getElem?_take_of_lt h]
theorem lm_append_left {us vs : List Int} {i : Nat} (h : i < us.length) : lm (us ++ vs) i = lm us i := by simp [lm, List.getElem?_append_left h]
theorem lm_append_right {us vs : List Int} {i : Nat} (h : us.length ≤ i) : lm (us ++ vs) i = lm vs (i - us.length) := by simp [lm, List.getElem?_append_right h]
theorem lm_drop (us : List Int) (n i : Nat) : lm (us.drop n) i = lm us (n + i) := by simp [lm]
theorem lm_replicate (n i : Nat) : lm (List.replicate n 0) i = 0 := by
  by_cases h : i < n <;> simp [lm, h]

theorem Blk.cell {w : World} {g : Nat} {us : List Int} (h : Blk w g us) {i : Nat} (hi : i < us.length) : w.cell? ⟨g, i, none⟩ = some (.int .u64 (lm us i)) := by
  unfold Blk at h
  simp [World.cell?, h, lm_lt hi]
theorem Blk.frozen {w : World} {g : Nat} {us : List Int} (h : Blk w g us) (i : Nat) : w.frozen? ⟨g, i, none⟩ = false := by
  unfold Blk at h
  simp [World.frozen?, h]
theorem Blk.lt {w : World} {g : Nat} {us : List Int} (h : Blk w g us) : g < w.heap.size := (Array.getElem?_eq_some_iff.1 h).1
theorem Blk.set {w : World} {g : Nat} {us : List Int} (h : Blk w g us) (i : Nat) (z : Int) : Blk (w.setCell ⟨g, i, none⟩ (.int .u64 z)) g (us.set i z) := by
  unfold Blk at *
  simp [World.setCell, Array.getElem?_modify, h, List.map_set]
theorem Blk.drew {w : World} {g : Nat} {us : List Int} (h : Blk w g us) : Blk w.drew g us := h
theorem Blk.drewN {w : World} {g : Nat} {us : List Int} (h : Blk w g us) (n : Nat) : Blk (w.drewN n) g us := h
theorem Blk.alloc {w : World} {g : Nat} {us : List Int} (h : Blk w g us) (o : Obj) : Blk (w.alloc o) g us := by
  unfold Blk; rw [Below.heap_alloc _ _ _ h.lt]; exact h
theorem Blk.off {w w' : World} {g k : Nat} {us : List Int} (h : Blk w g us) (ho : Off k w w') (hk : g ≠ k) : Blk w' g us := by
  unfold Blk; rw [ho.block g hk]; exact h
theorem Blk.below {w w' : World} {g B : Nat} {us : List Int} (h : Blk w g us) (ho : Below B w w') (hk : g < B) : Blk w' g us := by
  unfold Blk; rw [ho.block g hk]; exact h

theorem Off.refl (g : Nat) (w : World) : Off g w w := ⟨rfl, rfl, rfl, rfl, fun _ _ => rfl⟩
theorem Off.trans {g : Nat} {a b c : World} (h : Off g a b) (k : Off g b c) : Off g a c :=
  ⟨k.os.trans h.os, k.tape.trans h.tape, k.output.trans h.output, k.size.trans h.size, fun i hi => (k.block i hi).trans (h.block i hi)⟩
theorem Off.set {g : Nat} {a w : World} (h : Off g a w) (i : Nat) (u : Value) : Off g a (w.setCell ⟨g, i, none⟩ u) :=
  h.trans ⟨rfl, rfl, rfl, by simp [World.setCell], fun k hk => Below.heap_setCell _ _ _ _ (by simpa using hk)⟩
theorem Off.drew {g : Nat} {a w : World} (h : Off g a w) : Off g a w.drew := h.trans ⟨rfl, rfl, rfl, rfl, fun _ _ => rfl⟩
theorem Off.drewN {g : Nat} {a w : World} (h : Off g a w) (n : Nat) : Off g a (w.drewN n) := h.trans ⟨rfl, rfl, rfl, rfl, fun _ _ => rfl⟩
theorem Off.below {g B : Nat} {w w' : World} (h : Off g w w') (hB : B ≤ g) : Below B w w' := ⟨h.os, h.tape, h.output, by have := h.size; omega, fun k hk => h.block k (by omega)⟩
theorem Off.cell {g : Nat} {w w' : World} (h : Off g w w') {p : Addr} (hp : p.block ≠ g) : w'.cell? p = w.cell? p := World.cell?_of_block (w := w) (h.block p.block hp)
theorem Off.frozen {g : Nat} {w w' : World} (h : Off g w w') {p : Addr} (hp : p.block ≠ g) : w'.frozen? p = w.frozen? p := World.frozen?_of_block (w := w) (h.block p.block hp)
theorem belN {B : Nat} {a w : World} (h : Below B a w) (n : Nat) : Below B a (w.drewN n) := ⟨h.os, h.tape, h.output, h.size, h.block⟩

/-- The cells that a slice is read from lie in blocks other than g. -/
def Away (a : Option Addr) (g : Nat) : Prop := ∀ p, a = some p → p.block ≠ g
theorem Reads.off {w w' : World} {a : Option Addr} {xs : List Int} {g : Nat} (h : Reads w a xs) (ho : Off g w w') (ha : Away a g) : Reads w' a xs := by
  rcases h with h | ⟨b, o, h, hc⟩
  · exact .inl h
  · exact .inr ⟨b, o, h, fun i hi => by rw [ho.cell (p := ⟨b, o + i, none⟩) (by exact ha ⟨b, o, none⟩ h)]; exact hc i hi⟩
theorem Reads.below {w w' : World} {a : Option Addr} {xs : List Int} (h : Reads w a xs) (ho : Below w.heap.size w w') : Reads w' a xs := by
  rcases h with h | ⟨b, o, h, hc⟩
  · exact .inl h
  · refine .inr ⟨b, o, h, fun i hi => ?_⟩
    have := World.block_lt_of_cell? _ _ (hc i hi)
    rw [ho.cell (by simpa using this)]
    exact hc i hi
theorem Reads.lt {w : World} {a : Option Addr} {xs : List Int} (h : Reads w a xs) (hx : xs ≠ []) : ∀ p, a = some p → p.block < w.heap.size := by
  rcases h with h | ⟨b, o, h, hc⟩
  · exact absurd h hx
  · intro p hp
    have hl : 0 < xs.length := List.length_pos_iff.2 hx
    have := World.block_lt_of_cell? _ _ (hc 0 hl)
    rw [h] at hp
    cases hp
    simpa using this
theorem Reads.take {w : World} {a : Option Addr} {xs : List Int} (h : Reads w a xs) (n : Nat) : Reads w a (xs.take n) := by
  rcases h with h | ⟨b, o, h, hc⟩
  · exact .inl (by simp [h])
  · refine .inr ⟨b, o, h, fun i hi => ?_⟩
    simp only [List.length_take] at hi
    rw [lm_take (by omega)]
    exact hc i (by omega)
theorem Blk.reads {w : World} {g : Nat} {us : List Int} (h : Blk w g us) (n : Nat) : Reads w (some ⟨g, 0, none⟩) (us.take n) := by
  refine .inr ⟨g, 0, rfl, fun i hi => ?_⟩
  simp only [List.length_take] at hi
  rw [lm_take (by omega), Nat.zero_add]
  exact h.cell (by omega)

/-- A slice that lies in memory of its own, from block B on: its limbs xs. -/
def Own (w : World) (B : Nat) (a : Option Addr) (cap : Nat) (xs : List Int) : Prop :=
  (a = none ∧ cap = 0 ∧ xs = []) ∨ ∃ g us, a = some ⟨g, 0, none⟩ ∧ B ≤ g ∧ Blk w g us ∧ us.length = cap ∧ xs.length ≤ cap ∧ us.take xs.length = xs
theorem Own.reads {w : World} {B : Nat} {a : Option Addr} {cap : Nat} {xs : List Int} (h : Own w B a cap xs) : Reads w a xs := by
  rcases h with ⟨_, _, h⟩ | ⟨g, us, rfl, _, hb, _, _, ht⟩
  · exact .inl h
  · rw [← ht]; exact hb.reads _
theorem Own.le {w : World} {B : Nat} {a : Option Addr} {cap : Nat} {xs : List Int} (h : Own w B a cap xs) : xs.length ≤ cap := by
  rcases h with ⟨_, _, h⟩ | ⟨g, us, rfl, _, hb, _, hl, _⟩
  · simp [h]
  · exact hl
theorem Own.below {w w' : World} {B : Nat} {a : Option Addr} {cap : Nat} {xs : List Int} (h : Own w B a cap xs) (hb : Below w.heap.size w w') : Own w' B a cap xs := by
  rcases h with h | ⟨g, us, rfl, h1, h2, h3⟩
  · exact .inl h
  · exact .inr ⟨g, us, rfl, h1, h2.below hb h2.lt, h3⟩
theorem Own.mono {w : World} {B B' : Nat} {a : Option Addr} {cap : Nat} {xs : List Int} (h : Own w B a cap xs) (hB : B' ≤ B) : Own w B' a cap xs := by
  rcases h with h | ⟨g, us, rfl, h1, h2, h3⟩
  · exact .inl h
  · exact .inr ⟨g, us, rfl, by omega, h2, h3⟩
theorem Own.of_blk {w : World} {B g : Nat} {us : List Int} (h : Blk w g us) (hB : B ≤ g) {n : Nat} (hn : n ≤ us.length) : Own w B (some ⟨g, 0, none⟩) us.length (us.take n) :=
  .inr ⟨g, us, rfl, hB, h, rfl, by simp; omega, by simp⟩

theorem Tryd.infoU64 : (Tryd.prog.info? 64).map (fun i => (i.zero, i.size, i.bytes)) = some (some (.int .u64 0), 1, 8) := by kernel_rfl
theorem Tryd.sizeU64 : (Tryd.prog.info? 64).map (·.size) = some 1 := by kernel_rfl

/-- 'make(api.Nat, n)' at a plain region. -/
theorem wpList_makeB (w : World) {ops : Array Oper} {rest : List Oper} {o : Oper} {a : Act} {Q : Exit → Act → World → Prop}
    (hg : o.guard = none) (l c : Operand) (hop : o.op = Op.makeSlice 23 l c)
    (L C : Int) (n : Nat) (hl : a.eval l = .int .i64 L) (hc : a.eval c = .int .i64 C) (hL : L = (n : Int)) (hC : C = (n : Int)) (b2 : n ≤ 1099511627776)
    (hK : ∀ w', Blk w' w.heap.size (List.replicate n 0) → Below w.heap.size w w' → wpList Tryd.prog ops Q rest (a.put o.dst (.slice (some ⟨w.heap.size, 0, none⟩) n n)) w') :
    wpList Tryd.prog ops Q (o :: rest) a w := by
  obtain ⟨i0, hi, hz0, hz1, hz2⟩ := info_parts Tryd.infoU64
  refine wpList_make_full w hg l c 23 hop w.heap.size 64 i0 (.int .u64 0) 1 Tryd.underlying23 hi hz0 hz1 .i64 .i64 L C n hl hc hL hC (by rw [hz2]; omega) (by unfold maxLen; omega) (Nat.le_refl _) ?_
  intro w' hown hgrow
  refine hK w' ?_ ((Below.refl _ _).grown hgrow (Nat.le_refl _) (fun k h => by cases h))
  obtain ⟨_, h2⟩ := hown
  rcases h2 with ⟨h2, _⟩ | ⟨g, cap, cur, hv, _, hh, _, _, hs, ht⟩
  · cases h2
  · simp only [Value.slice.injEq, Option.some.injEq, Addr.mk.injEq] at hv
    obtain ⟨⟨rfl, _, _⟩, _, rfl⟩ := hv
    unfold Blk
    rw [hh]
    have e : cur.toList = List.replicate n (Value.int .u64 0) := by
      have h3 : cur.toList.take (n * 1) = cur.toList := List.take_of_length_le (by simp [hs])
      rw [← h3, ht]
      simp only [Nat.mul_one]
      apply List.ext_getElem
      · simp [size_madeCells]
      · intro i h1 h2; simp [madeCells, Value.cells, Nat.mod_one]
    have : cur = (List.map (Value.int .u64) (List.replicate n 0)).toArray := by
      rw [List.map_replicate, ← e]
    rw [this]

/-- 'copy(b, a)' into a block of one's own, from its beginning on. -/
theorem wpList_copyB {w : World} {ops : Array Oper} {rest : List Oper} {o : Oper} {a : Act} {Q : Exit → Act → World → Prop} (hgd : o.guard = none) (d s : Operand)
    (ho : o.op = .call { callee := .builtin .copy, args := #[d, s], argTypes := #[23, 23] })
    (g : Nat) (dLen dCap sLen sCap : Nat) (sp : Option Addr) (hd : a.eval d = .slice (some ⟨g, 0, none⟩) dLen dCap) (hs : a.eval s = .slice sp sLen sCap)
    (us xs : List Int) (hb : Blk w g us) (hr : Reads w sp xs) (hx : sLen = xs.length) (h1 : xs.length ≤ dLen) (h2 : dLen ≤ us.length) (B : Nat) (w0 : World) (hbel : Below B w0 w) (hBg : B ≤ g)
    (h : ∀ w', Blk w' g (xs ++ us.drop xs.length) → Below B w0 w' → wpList Tryd.prog ops Q rest (a.put o.dst (goInt (xs.length : Nat))) w') :
    wpList Tryd.prog ops Q (o :: rest) a w := by
  refine wpList_copy_splice hgd d s 23 23 ho 64 Tryd.underlying23 Tryd.sizeU64 _ sp dLen dCap sLen sCap hd hs g 0 (us.map (Value.int .u64)) 64 hb (xs.map (Value.int .u64)) ?_ ?_ ?_ ?_ B w0 hbel hBg ?_
  · simp only [List.length_map, hx]; exact (Nat.min_eq_left h1).symm
  · intro hp
    simp only [List.length_map] at hp
    obtain ⟨b, oo, rfl, hc⟩ := hr.elim (fun e => by simp [e] at hp) id
    refine ⟨rfl, _, rfl, fun j v hv => ?_⟩
    simp only [List.getElem?_map, Option.map_eq_some_iff] at hv
    obtain ⟨x, hx', rfl⟩ := hv
    have hj : j < xs.length := (List.getElem?_eq_some_iff.1 hx').1
    have := hc j hj
    rw [lm_lt hj] at hx'
    cases hx'
    by_cases h0 : j = 0
    · subst h0; simpa [Addr.add] using this
    · simpa [Addr.add, h0] using this
  · simp only [List.length_map]; omega
  · intro v hv
    simp only [List.mem_map] at hv
    obtain ⟨x, _, rfl⟩ := hv
    rfl
  · intro w' hh hbl
    have := h w' (by unfold Blk; rw [hh.out]; simp [splice]) hbl
    simpa using this

/-! ### math/bits.Add64, Sub64, over Int -/
theorem add64 (x y c : Int) (hx : 0 ≤ x) (hy : 0 ≤ y) (hc0 : 0 ≤ c) (hc : c ≤ 1) (w : World) : (callFunc 94 #[.int .u64 x, .int .u64 y, .int .u64 c]).run Tryd.prog w =
    .ok (.value (.tuple #[.int .u64 ((x + y + c) % 18446744073709551616), .int .u64 ((x + y + c) / 18446744073709551616)])) w := by
  rw [run_callFunc_extern Tryd.func94 (by kernel_rfl) (by kernel_rfl) (by kernel_rfl) (e := add64Entry) (by kernel_rfl), run_add64 x y c hx hy hc0 hc]
  rfl
theorem add64_0 (x y : Int) (hx : 0 ≤ x) (hy : 0 ≤ y) (w : World) : (callFunc 94 #[.int .u64 x, .int .u64 y, .int .u64 0]).run Tryd.prog w =
    .ok (.value (.tuple #[.int .u64 ((x + y) % 18446744073709551616), .int .u64 ((x + y) / 18446744073709551616)])) w := by
  simpa using add64 x y 0 hx hy (Int.le_refl 0) (by decide) w
/-- The second number is the literal 0. -/
theorem add64_c (x c : Int) (hx : 0 ≤ x) (hc0 : 0 ≤ c) (hc : c ≤ 1) (w : World) : (callFunc 94 #[.int .u64 x, .int .u64 0, .int .u64 c]).run Tryd.prog w =
    .ok (.value (.tuple #[.int .u64 ((x + c) % 18446744073709551616), .int .u64 ((x + c) / 18446744073709551616)])) w := by
  simpa using add64 x 0 c hx (Int.le_refl 0) hc0 hc w
/-- The borrow, under a name. -/
def bor (x y : Int) : Int := if x < y then 1 else 0
theorem bor_01 (x y : Int) : 0 ≤ bor x y ∧ bor x y ≤ 1 := by unfold bor; split <;> omega
theorem sub64 (x y b : Int) (hx : 0 ≤ x) (hy : 0 ≤ y) (hy' : y < 18446744073709551616) (hb0 : 0 ≤ b) (hb : b ≤ 1) (w : World) : (callFunc 95 #[.int .u64 x, .int .u64 y, .int .u64 b]).run Tryd.prog w =
    .ok (.value (.tuple #[.int .u64 ((x - y - b) % 18446744073709551616), .int .u64 (bor x (y + b))])) w := by
  obtain ⟨x, rfl⟩ := Int.eq_ofNat_of_zero_le hx
  obtain ⟨y, rfl⟩ := Int.eq_ofNat_of_zero_le hy
  obtain ⟨b, rfl⟩ := Int.eq_ofNat_of_zero_le hb0
  have e1 : (((x + 18446744073709551616 - y - b) % 18446744073709551616 : Nat) : Int) = ((x : Int) - y - b) % 18446744073709551616 := by omega
  have e2 : ((if x < y + b then 1 else 0 : Nat) : Int) = bor x (y + b) := by unfold bor; split <;> split <;> omega
  rw [← e1, ← e2, run_callFunc_extern Tryd.func95 (by kernel_rfl) (by kernel_rfl) (by kernel_rfl) (e := sub64Entry) (by kernel_rfl), run_sub64 x y b (by omega)]
  rfl
theorem sub64_0 (x y : Int) (hx : 0 ≤ x) (hy : 0 ≤ y) (hy' : y < 18446744073709551616) (w : World) : (callFunc 95 #[.int .u64 x, .int .u64 y, .int .u64 0]).run Tryd.prog w =
    .ok (.value (.tuple #[.int .u64 ((x - y) % 18446744073709551616), .int .u64 (bor x y)])) w := by
  simpa using sub64 x y 0 hx hy hy' (Int.le_refl 0) (by decide) w
theorem sub64_c (x b : Int) (hx : 0 ≤ x) (hb0 : 0 ≤ b) (hb : b ≤ 1) (w : World) : (callFunc 95 #[.int .u64 x, .int .u64 0, .int .u64 b]).run Tryd.prog w =
    .ok (.value (.tuple #[.int .u64 ((x - b) % 18446744073709551616), .int .u64 (bor x b)])) w := by
  simpa using sub64 x 0 b hx (Int.le_refl 0) (by decide) hb0 hb w
end Go.Proofs.YtfelogbfijomiaaDoor

namespace Go.Proofs.YtfelogbfijomiaaDoor
open Go.RowKit

/-- The order of the first k limbs, the topmost first. -/
def cmpTo (xs ys : List Int) : Nat → Int
  | 0 => 0
  | k + 1 => if lm xs k = lm ys k then cmpTo xs ys k else ordI (decide (lm xs k < lm ys k))
def cmpL (xs ys : List Int) : Int :=
  if tlen xs = tlen ys then cmpTo xs ys (tlen xs) else ordI (decide (tlen xs < tlen ys))
theorem cmpTo_eq {xs ys : List Int} {j : Nat} (h : lm xs j = lm ys j) : cmpTo xs ys (j + 1) = cmpTo xs ys j := by simp [cmpTo, h]
theorem cmpTo_ne {xs ys : List Int} {j : Nat} (h : ¬ lm xs j = lm ys j) : cmpTo xs ys (j + 1) = ordI (decide (lm xs j < lm ys j)) := by simp [cmpTo, h]

theorem Reads.at {w : World} {a : Option Addr} {xs : List Int} (h : Reads w a xs) (hp : 0 < xs.length) : ∃ b o, a = some ⟨b, o, none⟩ ∧ ∀ i, i < xs.length → w.cell? ⟨b, o + i, none⟩ = some (.int .u64 (lm xs i)) := by
  rcases h with rfl | h
  · simp at hp
  · exact h
theorem Reads.drewN {w : World} {a : Option Addr} {xs : List Int} (h : Reads w a xs) (n : Nat) : Reads (w.drewN n) a xs := by
  rcases h with h | ⟨b, o, h, hc⟩
  · exact .inl h
  · exact .inr ⟨b, o, h, fun i hi => by simpa using hc i hi⟩

set_option maxHeartbeats 1000000 in
theorem cmp_any (a b : Option Addr) (na nb ca cb : Nat) (xs ys : List Int) (w : World) (hna : na = xs.length) (hnb : nb = ys.length) (hla : na ≤ ca) (hlb : nb ≤ cb)
    (hma : na ≤ 1099511627776) (hmb : nb ≤ 1099511627776) (hra : Reads w a xs) (hrb : Reads w b ys) :
    Calls Tryd.prog 47 #[.slice a na ca, .slice b nb cb] w fun e w' => e = .returned (.int .i64 (cmpL xs ys)) ∧ ∃ n, w' = w.drewN n := by
  have ta : tlen xs ≤ xs.length := tl_le _ _
  have tb : tlen ys ≤ ys.length := tl_le _ _
  subst hna hnb
  go_enter Tryd.func47, Tryd.ntmps47
  go_wp2_with fail
  refine (trim_any a _ ca xs _ rfl hla hma hra).mono ?_
  rintro e w1 ⟨rfl, rfl⟩
  go_wp2_with fail
  refine (trim_any b _ cb ys _ rfl hlb hmb hrb).mono ?_
  rintro e w1 ⟨rfl, rfl⟩
  by_cases hne : tlen xs = tlen ys
  · have HN : Hid (tlen xs = tlen ys) := hne
    have hb : ((tlen xs : Int) != (tlen ys : Int)) = false := by simp [hne]
    have ta' : tlen ys ≤ xs.length := by omega
    go_wp2_with fail
    go_loopw [5] (fun i wr => ∃ k m : Nat, k ≤ tlen ys ∧ i = .int .i64 ((k : Int) - 1) ∧ cmpTo xs ys k = cmpTo xs ys (tlen ys) ∧ wr = w.drewN m) (fun i _ => (intOf i + 1).toNat)
    case atStart => exact ⟨_, 0, Nat.le_refl _, rfl, rfl, rfl⟩
    case round =>
      obtain ⟨k, m, hk, rfl, ht, rfl⟩ := hrel
      have HT : Hid (cmpTo xs ys k = cmpTo xs ys (tlen ys)) := ht
      clear ht hb hne
      by_cases hk0 : k = 0
      · subst hk0
        go_wp2
        go_ret
        refine ⟨ret_int ?_, m, rfl⟩
        unfold cmpL; rw [if_pos HN.out, HN.out]; exact HT.out
      · obtain ⟨j, rfl⟩ : ∃ j, k = j + 1 := ⟨k - 1, by omega⟩
        obtain ⟨b1, o1, rfl, hc1⟩ := hra.at (by omega)
        obtain ⟨b2, o2, rfl, hc2⟩ := hrb.at (by omega)
        have h1 := hc1 j (by omega)
        have h2 := hc2 j (by omega)
        have hj : (j : Int) < (tlen ys : Int) := by omega
        clear hc1 hc2
        by_cases hz : lm xs j = lm ys j
        · have HT2 : Hid (cmpTo xs ys j = cmpTo xs ys (tlen ys)) := (cmpTo_eq hz).symm.trans HT.out
          rw [hz] at h1
          clear hz
          go_wp2
          go_quiet (fail)
          go_wp2
          go_roundw
          case rel => exact ⟨j, m + nq, by omega, by go_num, HT2.out, rfl⟩
          case measure => simp [intOf]
        · have hzb : (lm xs j != lm ys j) = true := by simpa using hz
          go_wp2
          go_quiet (fail)
          obtain ⟨W2, hW2⟩ : ∃ W2, W2 = (w.drewN m).drewN nq := ⟨_, rfl⟩
          have g1 : W2.cell? ⟨b1, o1 + j, none⟩ = some (.int .u64 (lm xs j)) := by rw [hW2]; simpa using h1
          have g2 : W2.cell? ⟨b2, o2 + j, none⟩ = some (.int .u64 (lm ys j)) := by rw [hW2]; simpa using h2
          rw [← hW2]
          have HW2 : Hid (∃ q, W2 = w.drewN q) := ⟨m + nq, by rw [hW2]; simp⟩
          clear hW2 h1 h2 hz
          go_wp2
          go_quiet ((go_at_call 75; exact Calls.quiet_of_same ((order_any _ _).mono (fun _ _ h => ⟨h.1, h.2.symm⟩))))
          go_wp2
          go_ret
          obtain ⟨q, hq⟩ := HW2.out
          refine ⟨ret_int ?_, q + nq, ?_⟩
          · unfold cmpL; rw [if_pos HN.out, HN.out, ← HT.out, cmpTo_ne (by simpa using hzb)]
          · rw [hq]; simp
  · have hb : ((tlen xs : Int) != (tlen ys : Int)) = true := by simp; omega
    go_wp2_with fail
    refine (order_any _ _).mono ?_
    rintro e w1 ⟨rfl, rfl⟩
    go_wp2
    go_ret
    refine ⟨ret_int ?_, 0, rfl⟩
    unfold cmpL; rw [if_neg hne]
    first | done | simp
end Go.Proofs.YtfelogbfijomiaaDoor

namespace Go.Proofs.YtfelogbfijomiaaDoor
open Go.RowKit

theorem length_trimL (xs : List Int) : (trimL xs).length = tlen xs := by
  have : tlen xs ≤ xs.length := tl_le _ _
  simp [trimL]; omega

/-- What tl is: beyond it nothing but noughts, and the last one below it isn't. -/
theorem tl_spec (xs : List Int) (n : Nat) : (∀ i, tl xs n ≤ i → i < n → lm xs i = 0) ∧ (0 < tl xs n → lm xs (tl xs n - 1) ≠ 0) := by
  induction n with
  | zero => simp [tl]
  | succ n ih =>
    unfold tl
    split
    · rename_i h
      refine ⟨fun i h1 h2 => ?_, ih.2⟩
      rcases Nat.lt_or_ge i n with h3 | h3
      · exact ih.1 i h1 h3
      · obtain rfl : i = n := by omega
        exact h
    · rename_i h
      exact ⟨fun i h1 h2 => by omega, fun _ => h⟩
theorem tl_unique (xs : List Int) (n k : Nat) (hk : k ≤ n) (h1 : ∀ i, k ≤ i → i < n → lm xs i = 0) (h2 : 0 < k → lm xs (k - 1) ≠ 0) : tl xs n = k := by
  obtain ⟨a, b⟩ := tl_spec xs n
  have hle := tl_le xs n
  rcases Nat.lt_trichotomy (tl xs n) k with h | h | h
  · exact absurd (a (k - 1) (by omega) (by omega)) (h2 (by omega))
  · exact h
  · exact absurd (h1 (tl xs n - 1) (by omega) (by omega)) (b (by omega))
theorem tlen_trimL (xs : List Int) : tlen (trimL xs) = tlen xs := by
  have hle : tlen xs ≤ xs.length := tl_le _ _
  obtain ⟨a, b⟩ := tl_spec xs xs.length
  unfold tlen
  rw [length_trimL]
  refine tl_unique _ _ _ (Nat.le_refl _) (fun i h1 h2 => by unfold tlen at h2; omega) (fun h => ?_)
  unfold trimL
  rw [lm_take (by unfold tlen; omega)]
  exact b h
theorem trimL_trimL (xs : List Int) : trimL (trimL xs) = trimL xs := by
  have : tlen (trimL xs) = (trimL xs).length := by rw [tlen_trimL, length_trimL]
  show (trimL xs).take (tlen (trimL xs)) = trimL xs
  rw [this, List.take_length]

set_option maxHeartbeats 1000000 in
theorem norm_any (a : Option Addr) (n cap : Nat) (xs : List Int) (w : World) (hn : n = xs.length) (hl : n ≤ cap) (hm : n ≤ 1099511627776) (hr : Reads w a xs) :
    Calls Tryd.prog 59 #[.slice a n cap] w fun e w' => ∃ g, e = .returned (.slice (some ⟨g, 0, none⟩) (tlen xs) (tlen xs)) ∧ w.heap.size ≤ g ∧ Blk w' g (trimL xs) ∧ Below w.heap.size w w' := by
  have ta : tlen xs ≤ xs.length := tl_le _ _
  subst hn
  have hlen := length_trimL xs
  have HL : Hid ((trimL xs).length = tlen xs) := hlen
  clear hlen
  go_enter Tryd.func59, Tryd.ntmps59
  go_wp2_with fail
  refine (trim_any a _ cap xs _ rfl hl hm hr).mono ?_
  rintro e w1 ⟨rfl, rfl⟩
  go_wp2_with (at_make; refine wpList_makeB _ rfl _ _ rfl _ _ (tlen xs) rfl rfl rfl rfl (by omega) ?_)
  intro w1 hb1 hbel1
  go_wp2_with (refine wpList_copyB rfl _ _ rfl w.heap.size _ _ _ _ a rfl rfl (List.replicate (tlen xs) 0) (trimL xs) hb1 ((hr.below hbel1).take _) HL.out.symm (by rw [HL.out]; exact Nat.le_refl _) (by simp) w.heap.size w hbel1 (Nat.le_refl _) ?_)
  intro w2 hb2 hbel2
  go_wp2
  go_ret
  refine ⟨_, rfl, Nat.le_refl _, ?_, hbel2⟩
  rw [HL.out] at hb2
  simpa using hb2

/-- All of them words. -/
def AllW (xs : List Int) : Prop := ∀ x ∈ xs, Word x
theorem AllW.at {xs : List Int} (h : AllW xs) (i : Nat) : 0 ≤ lm xs i ∧ lm xs i < 18446744073709551616 := by
  by_cases hi : i < xs.length
  · have := h (lm xs i) (List.mem_of_getElem? (lm_lt hi))
    exact this
  · rw [lm_ge (by omega)]; omega
theorem AllW.set {xs : List Int} (h : AllW xs) (i : Nat) (z : Int) (hz : Word z) : AllW (xs.set i z) := by
  intro x hx
  rcases List.mem_or_eq_of_mem_set hx with h1 | rfl
  · exact h x h1
  · exact hz
theorem AllW.take {xs : List Int} (h : AllW xs) (n : Nat) : AllW (xs.take n) := fun x hx => h x (List.mem_of_mem_take hx)
theorem AllW.drop {xs : List Int} (h : AllW xs) (n : Nat) : AllW (xs.drop n) := fun x hx => h x (List.mem_of_mem_drop hx)
theorem AllW.append {xs ys : List Int} (h : AllW xs) (k : AllW ys) : AllW (xs ++ ys) := fun x hx => (List.mem_append.1 hx).elim (h x) (k x)
theorem AllW.nil : AllW [] := fun x hx => by cases hx
theorem AllW.replicate (n : Nat) : AllW (List.replicate n 0) := fun x hx => by rw [List.eq_of_mem_replicate hx]; unfold Word; omega
theorem word_mod (x : Int) : Word (x % 18446744073709551616) := ⟨by omega, by omega⟩

/-- addTo's first loop, so many rounds of it: the block, and the carry. -/
def addR (us : List Int) (o : Nat) (ys : List Int) : Nat → List Int × Int
  | 0 => (us, 0)
  | k + 1 => ((addR us o ys k).1.set (o + k) ((lm (addR us o ys k).1 (o + k) + lm ys k + (addR us o ys k).2) % 18446744073709551616), (lm (addR us o ys k).1 (o + k) + lm ys k + (addR us o ys k).2) / 18446744073709551616)
theorem addR_ok {us ys : List Int} (o : Nat) (hu : AllW us) (hy : AllW ys) (k : Nat) : AllW (addR us o ys k).1 ∧ (addR us o ys k).1.length = us.length ∧ 0 ≤ (addR us o ys k).2 ∧ (addR us o ys k).2 ≤ 1 := by
  induction k with
  | zero => simp [addR, hu]
  | succ k ih =>
    obtain ⟨h1, h2, h3, h4⟩ := ih
    have a := h1.at (o + k)
    have b := hy.at k
    refine ⟨h1.set _ _ (word_mod _), by simp [addR, h2], ?_, ?_⟩ <;> simp only [addR] <;> omega
/-- Its second one, of f limbs at the most: the block behind it. -/
def rip (o n : Nat) : Nat → List Int → Int → List Int
  | 0, u, _ => u
  | f + 1, u, c => if 0 < c then rip o n f (u.set (o + (n - (f + 1))) ((lm u (o + (n - (f + 1))) + c) % 18446744073709551616)) ((lm u (o + (n - (f + 1))) + c) / 18446744073709551616) else u
def addF (us : List Int) (o n : Nat) (ys : List Int) : List Int := rip o n (n - ys.length) (addR us o ys ys.length).1 (addR us o ys ys.length).2

theorem rip_stop {o n i : Nat} {u : List Int} {c : Int} (h : n ≤ i ∨ ¬ 0 < c) : rip o n (n - i) u c = u := by
  rcases h with h | h
  · rw [show n - i = 0 by omega]; rfl
  · cases e : n - i with
    | zero => rfl
    | succ f => simp [rip, h]
theorem rip_step {o n i : Nat} {u : List Int} {c : Int} (h : i < n) (hc : 0 < c) : rip o n (n - i) u c = rip o n (n - (i + 1)) (u.set (o + i) ((lm u (o + i) + c) % 18446744073709551616)) ((lm u (o + i) + c) / 18446744073709551616) := by
  rw [show n - i = (n - (i + 1)) + 1 by omega]
  simp only [rip, if_pos hc]
  rw [show n - (n - (i + 1) + 1) = i by omega]

set_option maxHeartbeats 1000000 in
theorem addTo_any (g o n cap : Nat) (us : List Int) (b : Option Addr) (nb cb : Nat) (ys : List Int) (w : World) (hb : Blk w g us) (hfit : o + n ≤ us.length) (hm : us.length ≤ 1099511627776) (hu : AllW us)
    (hnb : nb = ys.length) (hle : nb ≤ n) (hr : Reads w b ys) (haw : ys ≠ [] → Away b g) (hy : AllW ys) :
    Calls Tryd.prog 74 #[.slice (some ⟨g, o, none⟩) n cap, .slice b nb cb] w fun e w' => e = .returned (.tuple #[]) ∧ Blk w' g (addF us o n ys) ∧ Off g w w' := by
  subst hnb
  go_enter Tryd.func74, Tryd.ntmps74
  go_wp2
  go_loopw [4, 10] (fun c i wr => ∃ k : Nat, k ≤ ys.length ∧ i = .int .i64 k ∧ c = .int .u64 (addR us o ys k).2 ∧ Blk wr g (addR us o ys k).1 ∧ Off g w wr) (fun _ i _ => ys.length - (intOf i).toNat)
  case atStart => exact ⟨0, Nat.zero_le _, rfl, rfl, hb, Off.refl _ _⟩
  case round =>
    obtain ⟨k, hk, rfl, rfl, hbr, hoff⟩ := hrel
    obtain ⟨ok1, ok2, ok3, ok4⟩ := addR_ok o hu hy k
    by_cases hlt : k < ys.length
    · obtain ⟨b2, o2, rfl, hc2⟩ := hr.at (by omega)
      have HN : Hid (addR us o ys (k + 1) = ((addR us o ys k).1.set (o + k) ((lm (addR us o ys k).1 (o + k) + lm ys k + (addR us o ys k).2) % 18446744073709551616), (lm (addR us o ys k).1 (o + k) + lm ys k + (addR us o ys k).2) / 18446744073709551616)) := rfl
      generalize hU : (addR us o ys k).1 = U at *
      generalize hC : (addR us o ys k).2 = C at *
      clear hU hC
      have HC2 : wr.cell? ⟨b2, o2 + k, none⟩ = some (.int .u64 (lm ys k)) := by rw [hoff.cell (p := ⟨b2, o2 + k, none⟩) (by exact haw (List.length_pos_iff.1 (by omega)) ⟨b2, o2, none⟩ rfl)]; exact hc2 k hlt
      have hcg := hbr.cell (i := o + k) (by omega)
      have hfg := hbr.frozen (o + k)
      have a1 := ok1.at (o + k)
      have a2 := hy.at k
      have HB := hbr.set (o + k) ((lm U (o + k) + lm ys k + C) % 18446744073709551616)
      have HO := hoff.set (o + k) (.int .u64 ((lm U (o + k) + lm ys k + C) % 18446744073709551616))
      obtain ⟨a10, a11⟩ := a1
      obtain ⟨a20, a21⟩ := a2
      have hkn : (k : Int) < (n : Int) := by omega
      clear hc2 hb hr haw hbr hoff
      go_wp2_with (simp only [add64 (lm U (o + k)) (lm ys k) C a10 a20 ok3 ok4])
      go_roundw
      case rel => exact ⟨k + 1, by omega, by go_num, by rw [HN.out], by rw [HN.out]; exact HB, HO⟩
      case measure => simp [intOf]; omega
    · obtain rfl : k = ys.length := by omega
      clear hlt
      have HF : Hid (addF us o n ys = rip o n (n - ys.length) (addR us o ys ys.length).1 (addR us o ys ys.length).2) := rfl
      generalize hU : (addR us o ys ys.length).1 = U at *
      generalize hC : (addR us o ys ys.length).2 = C at *
      clear hU hC
      clear hb
      go_wp2
      go_loopw [4, 7] (fun c i wr => ∃ (q : Nat) (V : List Int) (D : Int), i = .int .i64 q ∧ ys.length ≤ q ∧ q ≤ n ∧ c = .int .u64 D ∧ Blk wr g V ∧ Off g w wr ∧ rip o n (n - q) V D = addF us o n ys ∧ AllW V ∧ V.length = us.length ∧ 0 ≤ D ∧ D ≤ 1) (fun _ i _ => n - (intOf i).toNat)
      case atStart => exact ⟨_, U, C, rfl, Nat.le_refl _, hle, rfl, hbr, hoff, HF.out.symm, ok1, ok2, ok3, ok4⟩
      case round =>
        obtain ⟨q, V, D, rfl, hq1, hq2, rfl, hbv, hov, hrip, v1, v2, v3, v4⟩ := hrel
        have HR : Hid (rip o n (n - q) V D = addF us o n ys) := hrip
        clear hrip hbr hoff ok1 ok2 ok3 ok4
        by_cases hD : 0 < D
        · by_cases hqn : q < n
          · have hcg := hbv.cell (i := o + q) (by omega)
            have hfg := hbv.frozen (o + q)
            obtain ⟨a10, a11⟩ := v1.at (o + q)
            have HB := hbv.set (o + q) ((lm V (o + q) + D) % 18446744073709551616)
            have HO := hov.set (o + q) (.int .u64 ((lm V (o + q) + D) % 18446744073709551616))
            have HR2 : Hid (rip o n (n - (q + 1)) (V.set (o + q) ((lm V (o + q) + D) % 18446744073709551616)) ((lm V (o + q) + D) / 18446744073709551616) = addF us o n ys) := (rip_step hqn hD).symm.trans HR.out
            clear hbv hov HR
            go_wp2_with (simp only [add64_c (lm V (o + q)) D a10 v3 v4])
            go_roundw
            case rel => exact ⟨q + 1, _, _, by go_num, by omega, by omega, rfl, HB, HO, HR2.out, v1.set _ _ (word_mod _), by simp [v2], by omega, by omega⟩
            case measure => simp [intOf]; omega
          · have HR2 : Hid (V = addF us o n ys) := (rip_stop (.inl (by omega))).symm.trans HR.out
            go_wp2
            go_end0
            exact ⟨rfl, HR2.out ▸ hbv, hov⟩
        · have HR2 : Hid (V = addF us o n ys) := (rip_stop (.inr hD)).symm.trans HR.out
          have hDb : decide (0 < D) = false := by simpa using hD
          go_wp2
          go_end0
          exact ⟨rfl, HR2.out ▸ hbv, hov⟩

/-- The sum's limbs, ahead of the last cut. -/
def addL (xs ys : List Int) : List Int := if tlen xs < tlen ys then addF (trimL ys ++ [0]) 0 (tlen ys + 1) (trimL xs) else addF (trimL xs ++ [0]) 0 (tlen xs + 1) (trimL ys)
theorem length_rip (o n : Nat) : ∀ (f : Nat) (u : List Int) (c : Int), (rip o n f u c).length = u.length
  | 0, u, c => rfl
  | f + 1, u, c => by
    unfold rip
    split
    · rw [length_rip]; simp
    · rfl
theorem length_addR (us : List Int) (o : Nat) (ys : List Int) (k : Nat) : (addR us o ys k).1.length = us.length := by
  induction k with
  | zero => rfl
  | succ k ih => simp [addR, ih]
theorem length_addF (us : List Int) (o n : Nat) (ys : List Int) : (addF us o n ys).length = us.length := by
  unfold addF; rw [length_rip, length_addR]
theorem Blk.reads' {w : World} {g : Nat} {us : List Int} (h : Blk w g us) : Reads w (some ⟨g, 0, none⟩) us := by
  have := h.reads us.length
  rwa [List.take_length] at this

/-- What a call hands back: limbs us in new memory, without the noughts at the end. -/
def Res (w w' : World) (e : Ending) (us : List Int) : Prop :=
  ∃ g, e = .returned (.slice (some ⟨g, 0, none⟩) (tlen us) us.length) ∧ w.heap.size ≤ g ∧ Blk w' g us ∧ Below w.heap.size w w'

theorem rep_one (n : Nat) : List.replicate (n + 1 - n) (0 : Int) = [0] := by
  rw [show n + 1 - n = 1 by omega]; rfl
end Go.Proofs.YtfelogbfijomiaaDoor

namespace Go.Proofs.YtfelogbfijomiaaDoor
open Go.RowKit

theorem ret_slice2 {a : Option Addr} {n m c d : Nat} (h : n = m) (k : c = d) : Ending.returned (.slice a n c) = .returned (.slice a m d) := by rw [h, k]

set_option maxHeartbeats 600000 in
theorem add_any (a b : Option Addr) (na nb ca cb : Nat) (xs ys : List Int) (w : World) (hna : na = xs.length) (hnb : nb = ys.length) (hla : na ≤ ca) (hlb : nb ≤ cb)
    (hma : na ≤ 1000000000000) (hmb : nb ≤ 1000000000000) (hra : Reads w a xs) (hrb : Reads w b ys) (hx : AllW xs) (hy : AllW ys) :
    Calls Tryd.prog 46 #[.slice a na ca, .slice b nb cb] w fun e w' => Res w w' e (addL xs ys) := by
  have ta : tlen xs ≤ xs.length := tl_le _ _
  have tb : tlen ys ≤ ys.length := tl_le _ _
  subst hna hnb
  go_enter Tryd.func46, Tryd.ntmps46
  go_wp2_with fail
  refine (trim_any a _ ca xs _ rfl hla (by omega) hra).mono ?_
  rintro e w1 ⟨rfl, rfl⟩
  go_wp2_with fail
  refine (trim_any b _ cb ys _ rfl hlb (by omega) hrb).mono ?_
  rintro e w1 ⟨rfl, rfl⟩
  by_cases hlt : tlen xs < tlen ys
  · have hlt' : (tlen xs : Int) < (tlen ys : Int) := by omega
    have HL : Hid ((trimL ys).length = tlen ys) := length_trimL ys
    have HS : Hid (addL xs ys = addF (trimL ys ++ [0]) 0 (tlen ys + 1) (trimL xs)) := by show _ = _; unfold addL; rw [if_pos hlt]
    go_wp2_with (at_make; refine wpList_makeB _ rfl _ _ rfl _ _ (tlen ys + 1) rfl rfl (by omega) (by omega) (by omega) ?_)
    intro w1 hb1 hbel1
    go_wp2_with (refine wpList_copyB rfl _ _ rfl w.heap.size _ _ _ _ b rfl rfl (List.replicate (tlen ys + 1) 0) (trimL ys) hb1 ((hrb.below hbel1).take _) HL.out.symm (by rw [HL.out]; omega) (by simp) w.heap.size w hbel1 (Nat.le_refl _) ?_)
    intro w2 hb2 hbel2
    have hb2' : Blk w2 w.heap.size (trimL ys ++ [0]) := by
      rw [HL.out, rep_one] at hb2; exact hb2
    clear hb2 hb1
    go_wp2_with fail
    refine (addTo_any w.heap.size 0 (tlen ys + 1) _ (trimL ys ++ [0]) a (tlen xs) ca (trimL xs) w2 hb2' (by simp [HL.out]) (by simp [HL.out]; omega) ((hy.take _).append (AllW.replicate 1)) (length_trimL xs).symm (by omega) ((hra.below hbel2).take _) (fun hne p hp => ?haw) (hx.take _)).mono ?_
    case haw => have := (hra.take (tlen xs)).lt hne p hp; omega
    rintro e w3 ⟨rfl, hb3, hoff⟩
    have hbel3 : Below w.heap.size w w3 := hbel2.trans (hoff.below (Nat.le_refl _))
    rw [← HS.out] at hb3
    have HL2 : Hid ((addL xs ys).length = tlen ys + 1) := (congrArg List.length HS.out).trans (by rw [length_addF, List.length_append, HL.out]; rfl)
    clear hoff hb2' hbel2 hbel1
    go_wp2_with fail
    refine (trim_any (some ⟨w.heap.size, 0, none⟩) (tlen ys + 1) (tlen ys + 1) (addL xs ys) w3 HL2.out.symm (Nat.le_refl _) (by omega) hb3.reads').mono ?_
    rintro e w4 ⟨rfl, rfl⟩
    go_wp2
    go_ret
    exact ⟨w.heap.size, ret_slice2 rfl HL2.out.symm, Nat.le_refl _, hb3, hbel3⟩
  · have hlt' : ¬ (tlen xs : Int) < (tlen ys : Int) := by omega
    have HL : Hid ((trimL xs).length = tlen xs) := length_trimL xs
    have HS : Hid (addL xs ys = addF (trimL xs ++ [0]) 0 (tlen xs + 1) (trimL ys)) := by show _ = _; unfold addL; rw [if_neg hlt]
    go_wp2_with (at_make; refine wpList_makeB _ rfl _ _ rfl _ _ (tlen xs + 1) rfl rfl (by omega) (by omega) (by omega) ?_)
    intro w1 hb1 hbel1
    go_wp2_with (refine wpList_copyB rfl _ _ rfl w.heap.size _ _ _ _ a rfl rfl (List.replicate (tlen xs + 1) 0) (trimL xs) hb1 ((hra.below hbel1).take _) HL.out.symm (by rw [HL.out]; omega) (by simp) w.heap.size w hbel1 (Nat.le_refl _) ?_)
    intro w2 hb2 hbel2
    have hb2' : Blk w2 w.heap.size (trimL xs ++ [0]) := by
      rw [HL.out, rep_one] at hb2; exact hb2
    clear hb2 hb1
    go_wp2_with fail
    refine (addTo_any w.heap.size 0 (tlen xs + 1) _ (trimL xs ++ [0]) b (tlen ys) cb (trimL ys) w2 hb2' (by simp [HL.out]) (by simp [HL.out]; omega) ((hx.take _).append (AllW.replicate 1)) (length_trimL ys).symm (by omega) ((hrb.below hbel2).take _) (fun hne p hp => ?haw) (hy.take _)).mono ?_
    case haw => have := (hrb.take (tlen ys)).lt hne p hp; omega
    rintro e w3 ⟨rfl, hb3, hoff⟩
    have hbel3 : Below w.heap.size w w3 := hbel2.trans (hoff.below (Nat.le_refl _))
    rw [← HS.out] at hb3
    have HL2 : Hid ((addL xs ys).length = tlen xs + 1) := (congrArg List.length HS.out).trans (by rw [length_addF, List.length_append, HL.out]; rfl)
    clear hoff hb2' hbel2 hbel1
    go_wp2_with fail
    refine (trim_any (some ⟨w.heap.size, 0, none⟩) (tlen xs + 1) (tlen xs + 1) (addL xs ys) w3 HL2.out.symm (Nat.le_refl _) (by omega) hb3.reads').mono ?_
    rintro e w4 ⟨rfl, rfl⟩
    go_wp2
    go_ret
    exact ⟨w.heap.size, ret_slice2 rfl HL2.out.symm, Nat.le_refl _, hb3, hbel3⟩
end Go.Proofs.YtfelogbfijomiaaDoor

namespace Go.Proofs.YtfelogbfijomiaaDoor
open Go.RowKit

/-- takeFrom's first loop, so many rounds of it: the block, and the borrow. -/
def subR (us : List Int) (o : Nat) (ys : List Int) : Nat → List Int × Int
  | 0 => (us, 0)
  | k + 1 => ((subR us o ys k).1.set (o + k) ((lm (subR us o ys k).1 (o + k) - lm ys k - (subR us o ys k).2) % 18446744073709551616), bor (lm (subR us o ys k).1 (o + k)) (lm ys k + (subR us o ys k).2))
theorem subR_ok {us ys : List Int} (o : Nat) (hu : AllW us) (k : Nat) : AllW (subR us o ys k).1 ∧ (subR us o ys k).1.length = us.length ∧ 0 ≤ (subR us o ys k).2 ∧ (subR us o ys k).2 ≤ 1 := by
  induction k with
  | zero => simp [subR, hu]
  | succ k ih =>
    obtain ⟨h1, h2, h3, h4⟩ := ih
    exact ⟨h1.set _ _ (word_mod _), by simp [subR, h2], (bor_01 _ _).1, (bor_01 _ _).2⟩
/-- Its second one, of f limbs at the most: the block behind it, and the borrow. -/
def sip (o n : Nat) : Nat → List Int → Int → List Int × Int
  | 0, u, c => (u, c)
  | f + 1, u, c => if 0 < c then sip o n f (u.set (o + (n - (f + 1))) ((lm u (o + (n - (f + 1))) - c) % 18446744073709551616)) (bor (lm u (o + (n - (f + 1)))) c) else (u, c)
def subF (us : List Int) (o n : Nat) (ys : List Int) : List Int × Int := sip o n (n - ys.length) (subR us o ys ys.length).1 (subR us o ys ys.length).2

theorem sip_stop {o n i : Nat} {u : List Int} {c : Int} (h : ¬ 0 < c) : sip o n (n - i) u c = (u, c) := by
  cases e : n - i with
  | zero => rfl
  | succ f => simp [sip, h]
theorem sip_step {o n i : Nat} {u : List Int} {c : Int} (h : i < n) (hc : 0 < c) : sip o n (n - i) u c = sip o n (n - (i + 1)) (u.set (o + i) ((lm u (o + i) - c) % 18446744073709551616)) (bor (lm u (o + i)) c) := by
  rw [show n - i = (n - (i + 1)) + 1 by omega]
  simp only [sip, if_pos hc]
  rw [show n - (n - (i + 1) + 1) = i by omega]
theorem sip_end {o n i : Nat} {u : List Int} {c : Int} (h : n ≤ i) : sip o n (n - i) u c = (u, c) := by
  rw [show n - i = 0 by omega]; rfl
theorem length_sip (o n : Nat) : ∀ (f : Nat) (u : List Int) (c : Int), (sip o n f u c).1.length = u.length
  | 0, u, c => rfl
  | f + 1, u, c => by
    unfold sip
    split
    · rw [length_sip]; simp
    · rfl
theorem length_subR (us : List Int) (o : Nat) (ys : List Int) (k : Nat) : (subR us o ys k).1.length = us.length := by
  induction k with
  | zero => rfl
  | succ k ih => simp [subR, ih]
theorem length_subF (us : List Int) (o n : Nat) (ys : List Int) : (subF us o n ys).1.length = us.length := by
  unfold subF; rw [length_sip, length_subR]

set_option maxHeartbeats 1000000 in
theorem takeFrom_any (g o n cap : Nat) (us : List Int) (b : Option Addr) (nb cb : Nat) (ys : List Int) (w : World) (hb : Blk w g us) (hfit : o + n ≤ us.length) (hm : us.length ≤ 1099511627776) (hu : AllW us)
    (hnb : nb = ys.length) (hle : nb ≤ n) (hr : Reads w b ys) (haw : ys ≠ [] → Away b g) (hy : AllW ys) (hlast : (subF us o n ys).2 = 0) :
    Calls Tryd.prog 76 #[.slice (some ⟨g, o, none⟩) n cap, .slice b nb cb] w fun e w' => e = .returned (.tuple #[]) ∧ Blk w' g (subF us o n ys).1 ∧ Off g w w' := by
  subst hnb
  have HLAST : Hid ((subF us o n ys).2 = 0) := hlast
  clear hlast
  go_enter Tryd.func76, Tryd.ntmps76
  go_wp2
  go_loopw [4, 10] (fun c i wr => ∃ k : Nat, k ≤ ys.length ∧ i = .int .i64 k ∧ c = .int .u64 (subR us o ys k).2 ∧ Blk wr g (subR us o ys k).1 ∧ Off g w wr) (fun _ i _ => ys.length - (intOf i).toNat)
  case atStart => exact ⟨0, Nat.zero_le _, rfl, rfl, hb, Off.refl _ _⟩
  case round =>
    obtain ⟨k, hk, rfl, rfl, hbr, hoff⟩ := hrel
    obtain ⟨ok1, ok2, ok3, ok4⟩ := subR_ok (ys := ys) o hu k
    by_cases hlt : k < ys.length
    · obtain ⟨b2, o2, rfl, hc2⟩ := hr.at (by omega)
      have HN : Hid (subR us o ys (k + 1) = ((subR us o ys k).1.set (o + k) ((lm (subR us o ys k).1 (o + k) - lm ys k - (subR us o ys k).2) % 18446744073709551616), bor (lm (subR us o ys k).1 (o + k)) (lm ys k + (subR us o ys k).2))) := rfl
      generalize hU : (subR us o ys k).1 = U at *
      generalize hC : (subR us o ys k).2 = C at *
      clear hU hC
      have HC2 : wr.cell? ⟨b2, o2 + k, none⟩ = some (.int .u64 (lm ys k)) := by rw [hoff.cell (p := ⟨b2, o2 + k, none⟩) (by exact haw (List.length_pos_iff.1 (by omega)) ⟨b2, o2, none⟩ rfl)]; exact hc2 k hlt
      have hcg := hbr.cell (i := o + k) (by omega)
      have hfg := hbr.frozen (o + k)
      have a1 := ok1.at (o + k)
      have a2 := hy.at k
      have HB := hbr.set (o + k) ((lm U (o + k) - lm ys k - C) % 18446744073709551616)
      have HO := hoff.set (o + k) (.int .u64 ((lm U (o + k) - lm ys k - C) % 18446744073709551616))
      obtain ⟨a10, a11⟩ := a1
      obtain ⟨a20, a21⟩ := a2
      have hkn : (k : Int) < (n : Int) := by omega
      clear hc2 hb hr haw hbr hoff
      go_wp2_with (simp only [sub64 (lm U (o + k)) (lm ys k) C a10 a20 a21 ok3 ok4])
      go_roundw
      case rel => exact ⟨k + 1, by omega, by go_num, by rw [HN.out], by rw [HN.out]; exact HB, HO⟩
      case measure => simp [intOf]; omega
    · obtain rfl : k = ys.length := by omega
      clear hlt
      have HF : Hid (subF us o n ys = sip o n (n - ys.length) (subR us o ys ys.length).1 (subR us o ys ys.length).2) := rfl
      generalize hU : (subR us o ys ys.length).1 = U at *
      generalize hC : (subR us o ys ys.length).2 = C at *
      clear hU hC
      clear hb
      go_wp2
      go_loopw [4, 7] (fun c i wr => ∃ (q : Nat) (V : List Int) (D : Int), i = .int .i64 q ∧ ys.length ≤ q ∧ q ≤ n ∧ c = .int .u64 D ∧ Blk wr g V ∧ Off g w wr ∧ sip o n (n - q) V D = subF us o n ys ∧ AllW V ∧ V.length = us.length ∧ 0 ≤ D ∧ D ≤ 1) (fun _ i _ => n - (intOf i).toNat)
      case atStart => exact ⟨_, U, C, rfl, Nat.le_refl _, hle, rfl, hbr, hoff, HF.out.symm, ok1, ok2, ok3, ok4⟩
      case round =>
        obtain ⟨q, V, D, rfl, hq1, hq2, rfl, hbv, hov, hrip, v1, v2, v3, v4⟩ := hrel
        have HR : Hid (sip o n (n - q) V D = subF us o n ys) := hrip
        clear hrip hbr hoff ok1 ok2 ok3 ok4
        by_cases hD : 0 < D
        · have hqn : q < n := by
            rcases Nat.lt_or_ge q n with h | h
            · exact h
            · have := HR.out
              rw [sip_end h] at this
              have h0 := HLAST.out
              rw [← this] at h0
              simp only at h0
              omega
          have hcg := hbv.cell (i := o + q) (by omega)
          have hfg := hbv.frozen (o + q)
          obtain ⟨a10, a11⟩ := v1.at (o + q)
          have hbo := bor_01 (lm V (o + q)) D
          have HB := hbv.set (o + q) ((lm V (o + q) - D) % 18446744073709551616)
          have HO := hov.set (o + q) (.int .u64 ((lm V (o + q) - D) % 18446744073709551616))
          have HR2 : Hid (sip o n (n - (q + 1)) (V.set (o + q) ((lm V (o + q) - D) % 18446744073709551616)) (bor (lm V (o + q)) D) = subF us o n ys) := (sip_step hqn hD).symm.trans HR.out
          clear hbv hov HR
          go_wp2_with (simp only [sub64_c (lm V (o + q)) D a10 v3 v4])
          go_roundw
          case rel => exact ⟨q + 1, _, _, by go_num, by omega, by omega, rfl, HB, HO, HR2.out, v1.set _ _ (word_mod _), by simp [v2], hbo.1, hbo.2⟩
          case measure => simp [intOf]; omega
        · have HR2 : Hid (V = (subF us o n ys).1) := by show _ = _; rw [← HR.out, sip_stop hD]
          have hDb : decide (0 < D) = false := by simpa using hD
          go_wp2
          go_end0
          exact ⟨rfl, HR2.out ▸ hbv, hov⟩

/-- The difference's limbs, ahead of the last cut. -/
def subL (xs ys : List Int) : List Int := (subF (trimL xs) 0 (tlen xs) (trimL ys)).1

end Go.Proofs.YtfelogbfijomiaaDoor

namespace Go.Proofs.YtfelogbfijomiaaDoor
open Go.RowKit Go.Shelf

/-! ### The shelf's contracts, laid at this program -/
def renM : Ren := ⟨fun | 264 => 96 | n => n, fun | 46 => 110 | 53 => 64 | n => n, fun n => n⟩
theorem laysM : Lays.n264 Tryd.prog renM :=
  { mixed := by kernel_rfl, f264 := by kernel_rfl, t46 := by kernel_rfl, a46 := fun _ => by kernel_rfl, z46 := fun _ => by kernel_rfl, v46 := fun _ => by kernel_rfl, t53 := by kernel_rfl, a53 := fun _ => by kernel_rfl, z53 := fun _ => by kernel_rfl, v53 := fun _ => by kernel_rfl }
def renL : Ren := ⟨fun | 129 => 80 | n => n, fun | 3 => 3 | 4 => 4 | 5 => 5 | 9 => 9 | 46 => 110 | 53 => 64 | n => n, fun n => n⟩
theorem laysL : Lays.n129 Tryd.prog renL :=
  { mixed := by kernel_rfl, f129 := by kernel_rfl, t3 := by kernel_rfl, a3 := fun _ => by kernel_rfl, z3 := fun _ => by kernel_rfl, v3 := fun _ => by kernel_rfl, t4 := by kernel_rfl, a4 := fun _ => by kernel_rfl, z4 := fun _ => by kernel_rfl, v4 := fun _ => by kernel_rfl, t5 := by kernel_rfl, a5 := fun _ => by kernel_rfl, z5 := fun _ => by kernel_rfl, v5 := fun _ => by kernel_rfl, t9 := by kernel_rfl, a9 := fun _ => by kernel_rfl, z9 := fun _ => by kernel_rfl, v9 := fun _ => by kernel_rfl, t46 := by kernel_rfl, a46 := fun _ => by kernel_rfl, z46 := fun _ => by kernel_rfl, v46 := fun _ => by kernel_rfl, t53 := by kernel_rfl, a53 := fun _ => by kernel_rfl, z53 := fun _ => by kernel_rfl, v53 := fun _ => by kernel_rfl }

theorem mul64_nat (x y : Nat) (hx : x < 18446744073709551616) (hy : y < 18446744073709551616) (w : World) :
    Calls Tryd.prog 96 #[.int .u64 x, .int .u64 y] w fun e w' => e = .returned (.tuple #[.int .u64 ((x * y / 18446744073709551616 : Nat) : Int), .int .u64 ((x * y % 18446744073709551616 : Nat) : Int)]) ∧ w' = w :=
  Any.bits_Mul64 laysM x y hx hy w
theorem len64_any (x : Int) (w : World) (h0 : 0 ≤ x) (h1 : x < 18446744073709551616) :
    Calls Tryd.prog 80 #[.int .u64 x] w fun e w' => e = .returned (.int .i64 (Lib.bitLen x.toNat)) ∧ w' = w :=
  Any.bits_Len64 laysL x w h0 (by omega)
end Go.Proofs.YtfelogbfijomiaaDoor

namespace Go.Proofs.YtfelogbfijomiaaDoor
open Go.RowKit

set_option maxHeartbeats 400000 in
theorem lead64_any (x : Int) (w : World) (h0 : 0 ≤ x) (h1 : x < 18446744073709551616) (n : Nat) (hn : Lib.bitLen x.toNat = n) (hn2 : n ≤ 64) :
    Calls Tryd.prog 110 #[.int .u64 x] w fun e w' => e = .returned (.int .i64 (64 - (n : Int))) ∧ w = w' := by
  have HN : Hid (Lib.bitLen x.toNat = n) := hn
  clear hn
  go_enter Tryd.func110, Tryd.ntmps110
  go_wp2_with fail
  refine (len64_any x _ h0 h1).mono ?_
  rintro e w1 ⟨rfl, rfl⟩
  rw [HN.out]
  go_wp2
  go_ret
  exact ⟨rfl, rfl⟩

/-! ### the plain arithmetic of one digit: b = 2^32 -/
theorem dg_lt {U L Y Q R : Int} (hd : U * 4294967296 + L = Q * Y + R) (hL : L < 4294967296) (hR : 0 ≤ R) (hU : U < Y) (hY : 0 < Y) : Q < 4294967296 := by
  have h : Q * Y < 4294967296 * Y := by omega
  exact Int.lt_of_mul_lt_mul_right h (by omega)
theorem dg_nn {U L Y Q R : Int} (hd : U * 4294967296 + L = Q * Y + R) (hL : 0 ≤ L) (hU : 0 ≤ U) (hR : R < Y) (hY : 0 < Y) : 0 ≤ Q := by
  have h : (-1) * Y < Q * Y := by omega
  have := Int.lt_of_mul_lt_mul_right h (by omega)
  omega
theorem dg_split {q Y Y1 Y0 r U p : Int} (hY : Y = Y1 * 4294967296 + Y0) (hi : q * Y1 + r = U) (hp : q * Y0 = p) : q * Y = (U - r) * 4294967296 + p := by
  have h1 : q * Y1 = U - r := by omega
  rw [hY, Int.mul_add, ← Int.mul_assoc, h1, hp]
theorem dg_gt {q Y Y1 Y0 r U L Q R p : Int} (hY : Y = Y1 * 4294967296 + Y0) (hi : q * Y1 + r = U) (hp : q * Y0 = p) (hd : U * 4294967296 + L = Q * Y + R) (hR : 0 ≤ R) (hY' : 0 < Y) (h : 4294967296 * r + L < p) : Q < q := by
  have e := dg_split hY hi hp
  have h2 : Q * Y < q * Y := by omega
  exact Int.lt_of_mul_lt_mul_right h2 (by omega)
theorem dg_le {q Y Y1 Y0 r U L Q R p : Int} (hY : Y = Y1 * 4294967296 + Y0) (hi : q * Y1 + r = U) (hp : q * Y0 = p) (hd : U * 4294967296 + L = Q * Y + R) (hR : R < Y) (hY' : 0 < Y) (h : p ≤ 4294967296 * r + L) : q ≤ Q := by
  have e := dg_split hY hi hp
  have h2 : q * Y < (Q + 1) * Y := by rw [Int.add_mul]; omega
  have := Int.lt_of_mul_lt_mul_right h2 (by omega)
  omega
theorem dg_break {q Y Y1 Y0 r U L Q R : Int} (hY : Y = Y1 * 4294967296 + Y0) (hi : q * Y1 + r = U) (hd : U * 4294967296 + L = Q * Y + R) (hR : R < Y) (hY' : 0 < Y) (hU : U < Y) (hL : 0 ≤ L) (h1 : 0 ≤ Y1) (h0 : 0 ≤ Y0) (h0' : Y0 < 4294967296) (hr : 4294967296 ≤ r) : q ≤ Q := by
  have hqb : q ≤ 4294967295 := by
    rcases Int.lt_or_le 4294967295 q with h | h
    · have := Int.mul_le_mul_of_nonneg_right (a := 4294967296) (b := q) (c := Y1) (by omega) h1
      omega
    · exact h
  have hp := Int.mul_le_mul (a := q) (b := Y0) (c := 4294967295) (d := 4294967295) hqb (by omega) h0 (by omega)
  exact dg_le hY hi rfl hd hR hY' (by omega)

theorem dg_start {U L Y Y1 Y0 Q R : Int} (hY : Y = Y1 * 4294967296 + Y0) (y1a : 2147483648 ≤ Y1) (y1b : Y1 < 4294967296) (y0a : 0 ≤ Y0) (ua : 0 ≤ U) (ub : U < Y) (yb : Y < 18446744073709551616) (la : 0 ≤ L) (hd : U * 4294967296 + L = Q * Y + R) (hQ : 0 ≤ Q) (hR : 0 ≤ R) (hL : L < 4294967296) :
    ∃ Z V : Int, U / Y1 = Z ∧ Z * Y1 = U - V ∧ Z < 8589934592 ∧ Hid (Q ≤ Z) ∧ Hid (Z * Y1 + V = U) ∧ Hid (IntKind.u64.wrap (U - IntKind.u64.wrap (U - V)) = V) ∧ (0 ≤ V ∧ V < 4294967296) := by
  obtain ⟨Z, hZ⟩ : ∃ Z, U / Y1 = Z := ⟨_, rfl⟩
  obtain ⟨V, hV⟩ : ∃ V, U - V = Z * Y1 := ⟨U - Z * Y1, by omega⟩
  have hmod : 0 ≤ V ∧ V < Y1 := by
    have := Int.emod_add_mul_ediv U Y1
    have h3 := Int.emod_nonneg U (show Y1 ≠ 0 by omega)
    have h4 := Int.emod_lt_of_pos U (show 0 < Y1 by omega)
    rw [hZ, Int.mul_comm] at this
    omega
  have hZ0 : 0 ≤ Z := by rw [← hZ]; exact Int.ediv_nonneg ua (by omega)
  have hZ1 : Z < 8589934592 := by
    have : Z * 2147483648 ≤ Z * Y1 := Int.mul_le_mul_of_nonneg_left y1a hZ0
    omega
  refine ⟨Z, V, hZ, hV.symm, hZ1, ?_, ?_, ?_, hmod.1, by omega⟩
  · have e : Z * Y1 + V = U := by omega
    have e2 : Q * Y1 ≤ U := by
      have h5 : Q * Y = Q * Y1 * 4294967296 + Q * Y0 := by rw [hY, Int.mul_add, ← Int.mul_assoc]
      have h6 : 0 ≤ Q * Y0 := Int.mul_nonneg hQ y0a
      omega
    have h8 : Q * Y1 < (Z + 1) * Y1 := by rw [Int.add_mul]; omega
    have := Int.lt_of_mul_lt_mul_right h8 (by omega)
    show Q ≤ Z
    omega
  · show _ = _; omega
  · show _ = _; rw [IntKind.wrap_u64, IntKind.wrap_u64]; omega

set_option maxHeartbeats 1000000 in
theorem div64_core (hi lo y : Int) (w : World) (h0 : 0 < hi) (_hl0 : 0 ≤ lo) (_hl1 : lo < 18446744073709551616) (hy1 : hi < y) (hy2 : y < 18446744073709551616) (n : Nat) (HN : Hid (Lib.bitLen y.toNat = n)) (hn1 : 1 ≤ n) (hn2 : n ≤ 64)
    (Y Y1 Y0 U Lw L1 L0 Q1 R1 Q2 R2 : Int) (eY : IntKind.u64.wrap (y * 2 ^ (64 - n)) = Y) (eY1 : Y / 4294967296 = Y1) (eY0 : bits BinOp.and IntKind.u64 Y 4294967295 = Y0)
    (eU : bits BinOp.or IntKind.u64 (IntKind.u64.wrap (hi * 2 ^ (64 - n))) (lo / 2 ^ (64 - (64 - n))) = U) (eL : IntKind.u64.wrap (lo * 2 ^ (64 - n)) = Lw) (eL1 : Lw / 4294967296 = L1) (eL0 : bits BinOp.and IntKind.u64 Lw 4294967295 = L0)
    (HY : Hid (Y = Y1 * 4294967296 + Y0)) (y1a : 2147483648 ≤ Y1) (y1b : Y1 < 4294967296) (y0a : 0 ≤ Y0) (y0b : Y0 < 4294967296) (ua : 0 ≤ U) (ub : U < Y) (yb : Y < 18446744073709551616) (l1a : 0 ≤ L1) (l1b : L1 < 4294967296) (l0a : 0 ≤ L0) (l0b : L0 < 4294967296) (_lw0 : 0 ≤ Lw) (_lw1 : Lw < 18446744073709551616)
    (H1 : Hid (U * 4294967296 + L1 = Q1 * Y + R1)) (r1a : 0 ≤ R1) (r1b : R1 < Y) (H2 : Hid (R1 * 4294967296 + L0 = Q2 * Y + R2)) (r2a : 0 ≤ R2) (r2b : R2 < Y) :
    Calls Tryd.prog 109 #[.int .u64 hi, .int .u64 lo, .int .u64 y] w fun e w' => e = .returned (.tuple #[.int .u64 (Q1 * 4294967296 + Q2), .int .u64 (R2 / 2 ^ (64 - n))]) ∧ w = w' := by
  have t1 : (y == 0) = false := by simp; omega
  have t2 : (hi == 0) = false := by simp; omega
  have q1a : 0 ≤ Q1 := dg_nn H1.out l1a ua r1b (by omega)
  have q1b : Q1 < 4294967296 := dg_lt H1.out l1b r1a ub (by omega)
  have q2a : 0 ≤ Q2 := dg_nn H2.out l0a r1a r2b (by omega)
  have q2b : Q2 < 4294967296 := dg_lt H2.out l0b r2a r1b (by omega)
  obtain ⟨Z, V, hZ, eZV, hZ1, HQI, HVI, EV, hmod⟩ := dg_start HY.out y1a y1b y0a ua ub (by omega) l1a H1.out q1a r1a l1b
  obtain ⟨Z2, V2, hZ2, eZV2, hZ21, HQI2, HVI2, EV2, hmod2⟩ := dg_start HY.out y1a y1b y0a r1a r1b (by omega) l0a H2.out q2a r2a l0b
  have E21 : IntKind.u64.wrap (IntKind.u64.wrap (IntKind.u64.wrap (U * 4294967296) + L1) - IntKind.u64.wrap (Q1 * Y)) = R1 := by
    simp only [IntKind.wrap_u64]; have := H1.out; omega
  have E22 : IntKind.u64.wrap (IntKind.u64.wrap (IntKind.u64.wrap (R1 * 4294967296) + L0) - IntKind.u64.wrap (Q2 * Y)) = R2 := by
    simp only [IntKind.wrap_u64]; have := H2.out; omega
  go_enter Tryd.func109, Tryd.ntmps109
  go_wp2_with fail
  refine (lead64_any y _ (by omega) hy2 n HN.out hn2).mono ?_
  rintro e w1 ⟨rfl, rfl⟩
  go_wp2_with fail
  go_loop [15, 16] (fun a b => ∃ q r : Int, a = .int .u64 q ∧ b = .int .u64 r ∧ q * Y1 + r = U ∧ 0 ≤ r ∧ r < 4294967296 ∧ Q1 ≤ q ∧ q < 8589934592) (fun a _ => (intOf a).toNat)
  case atStart => exact ⟨Z, V, by first | rfl | rw [hZ], by first | rfl | rw [EV.out], HVI.out, hmod.1, hmod.2, HQI.out, hZ1⟩
  case round =>
    obtain ⟨q, r, rfl, rfl, hqr, ra, rb, hq, hq'⟩ := hrel
    have HQR : Hid (q * Y1 + r = U) := hqr
    clear hqr hZ HVI HQI EV hmod hZ1 eZV
    by_cases c1 : 4294967296 ≤ q
    · have hlt : Q1 < q := by omega
      by_cases c3 : 4294967296 ≤ r + Y1
      · have hqe : Q1 = q - 1 := Int.le_antisymm (by omega) (dg_break (r := r + Y1) HY.out (by have := HQR.out; rw [Int.sub_mul]; omega) H1.out r1b (by omega) ub l1a (by omega) y0a y0b c3)
        have c4 : Q1 + 1 = q := by omega
        clear hqe hlt
        obtain rfl := c4
        go_wp2_with fail
        go_loop [18, 16] (fun a b => ∃ q r : Int, a = .int .u64 q ∧ b = .int .u64 r ∧ q * Y1 + r = R1 ∧ 0 ≤ r ∧ r < 4294967296 ∧ Q2 ≤ q ∧ q < 8589934592) (fun a _ => (intOf a).toNat)
        case atStart => exact ⟨Z2, V2, by first | rfl | rw [hZ2], by first | rfl | rw [EV2.out], HVI2.out, hmod2.1, hmod2.2, HQI2.out, hZ21⟩
        case round =>
          obtain ⟨q, r, rfl, rfl, hqr, ra, rb, hq, hq'⟩ := hrel
          have HQR : Hid (q * Y1 + r = R1) := hqr
          clear hqr hZ2 HVI2 HQI2 EV2 hmod2 hZ21 eZV2
          by_cases c1 : 4294967296 ≤ q
          · have hlt : Q2 < q := by omega
            by_cases c3 : 4294967296 ≤ r + Y1
            · have hqe : Q2 = q - 1 := Int.le_antisymm (by omega) (dg_break (r := r + Y1) HY.out (by have := HQR.out; rw [Int.sub_mul]; omega) H2.out r2b (by omega) r1b l0a (by omega) y0a y0b c3)
              have c4 : Q2 + 1 = q := by omega
              clear hqe hlt
              obtain rfl := c4
              go_wp2_with fail
              go_wp2
              go_ret2
              exact ⟨rfl, rfl⟩
            · go_wp2
              go_round
              case rel => exact ⟨q - 1, r + Y1, rfl, rfl, by have := HQR.out; rw [Int.sub_mul]; omega, by omega, by omega, by omega, by omega⟩
              case measure => simp [intOf]; omega
          · obtain ⟨p, hp⟩ : ∃ p, q * Y0 = p := ⟨_, rfl⟩
            have HP : Hid (q * Y0 = p) := hp
            have pb : 0 ≤ p ∧ p < 18446744073709551616 := by
              have a1 := Int.mul_nonneg (show 0 ≤ q by omega) y0a
              have a2 := Int.mul_le_mul (a := q) (b := Y0) (c := 4294967295) (d := 4294967295) (by omega) (by omega) y0a (by omega)
              omega
            obtain ⟨pa, pb⟩ := pb
            by_cases c2 : 4294967296 * r + L0 < p
            · have hlt : Q2 < q := dg_gt HY.out HQR.out HP.out H2.out r2a (by omega) c2
              by_cases c3 : 4294967296 ≤ r + Y1
              · have hqe : Q2 = q - 1 := Int.le_antisymm (by omega) (dg_break (r := r + Y1) HY.out (by have := HQR.out; rw [Int.sub_mul]; omega) H2.out r2b (by omega) r1b l0a (by omega) y0a y0b c3)
                have c4 : Q2 + 1 = q := by omega
                clear hqe hlt
                obtain rfl := c4
                go_wp2_with fail
                go_wp2
                go_ret2
                exact ⟨rfl, rfl⟩
              · go_wp2
                go_round
                case rel => exact ⟨q - 1, r + Y1, rfl, rfl, by have := HQR.out; rw [Int.sub_mul]; omega, by omega, by omega, by omega, by omega⟩
                case measure => simp [intOf]; omega
            · obtain rfl : Q2 = q := Int.le_antisymm hq (dg_le HY.out HQR.out HP.out H2.out r2b (by omega) (by omega))
              clear HP
              go_wp2_with fail
              go_wp2
              go_ret2
              exact ⟨rfl, rfl⟩
      · go_wp2
        go_round
        case rel => exact ⟨q - 1, r + Y1, rfl, rfl, by have := HQR.out; rw [Int.sub_mul]; omega, by omega, by omega, by omega, by omega⟩
        case measure => simp [intOf]; omega
    · obtain ⟨p, hp⟩ : ∃ p, q * Y0 = p := ⟨_, rfl⟩
      have HP : Hid (q * Y0 = p) := hp
      have pb : 0 ≤ p ∧ p < 18446744073709551616 := by
        have a1 := Int.mul_nonneg (show 0 ≤ q by omega) y0a
        have a2 := Int.mul_le_mul (a := q) (b := Y0) (c := 4294967295) (d := 4294967295) (by omega) (by omega) y0a (by omega)
        omega
      obtain ⟨pa, pb⟩ := pb
      by_cases c2 : 4294967296 * r + L1 < p
      · have hlt : Q1 < q := dg_gt HY.out HQR.out HP.out H1.out r1a (by omega) c2
        by_cases c3 : 4294967296 ≤ r + Y1
        · have hqe : Q1 = q - 1 := Int.le_antisymm (by omega) (dg_break (r := r + Y1) HY.out (by have := HQR.out; rw [Int.sub_mul]; omega) H1.out r1b (by omega) ub l1a (by omega) y0a y0b c3)
          have c4 : Q1 + 1 = q := by omega
          clear hqe hlt
          obtain rfl := c4
          go_wp2_with fail
          go_loop [18, 16] (fun a b => ∃ q r : Int, a = .int .u64 q ∧ b = .int .u64 r ∧ q * Y1 + r = R1 ∧ 0 ≤ r ∧ r < 4294967296 ∧ Q2 ≤ q ∧ q < 8589934592) (fun a _ => (intOf a).toNat)
          case atStart => exact ⟨Z2, V2, by first | rfl | rw [hZ2], by first | rfl | rw [EV2.out], HVI2.out, hmod2.1, hmod2.2, HQI2.out, hZ21⟩
          case round =>
            obtain ⟨q, r, rfl, rfl, hqr, ra, rb, hq, hq'⟩ := hrel
            have HQR : Hid (q * Y1 + r = R1) := hqr
            clear hqr hZ2 HVI2 HQI2 EV2 hmod2 hZ21 eZV2
            by_cases c1 : 4294967296 ≤ q
            · have hlt : Q2 < q := by omega
              by_cases c3 : 4294967296 ≤ r + Y1
              · have hqe : Q2 = q - 1 := Int.le_antisymm (by omega) (dg_break (r := r + Y1) HY.out (by have := HQR.out; rw [Int.sub_mul]; omega) H2.out r2b (by omega) r1b l0a (by omega) y0a y0b c3)
                have c4 : Q2 + 1 = q := by omega
                clear hqe hlt
                obtain rfl := c4
                go_wp2_with fail
                go_wp2
                go_ret2
                exact ⟨rfl, rfl⟩
              · go_wp2
                go_round
                case rel => exact ⟨q - 1, r + Y1, rfl, rfl, by have := HQR.out; rw [Int.sub_mul]; omega, by omega, by omega, by omega, by omega⟩
                case measure => simp [intOf]; omega
            · obtain ⟨p, hp⟩ : ∃ p, q * Y0 = p := ⟨_, rfl⟩
              have HP : Hid (q * Y0 = p) := hp
              have pb : 0 ≤ p ∧ p < 18446744073709551616 := by
                have a1 := Int.mul_nonneg (show 0 ≤ q by omega) y0a
                have a2 := Int.mul_le_mul (a := q) (b := Y0) (c := 4294967295) (d := 4294967295) (by omega) (by omega) y0a (by omega)
                omega
              obtain ⟨pa, pb⟩ := pb
              by_cases c2 : 4294967296 * r + L0 < p
              · have hlt : Q2 < q := dg_gt HY.out HQR.out HP.out H2.out r2a (by omega) c2
                by_cases c3 : 4294967296 ≤ r + Y1
                · have hqe : Q2 = q - 1 := Int.le_antisymm (by omega) (dg_break (r := r + Y1) HY.out (by have := HQR.out; rw [Int.sub_mul]; omega) H2.out r2b (by omega) r1b l0a (by omega) y0a y0b c3)
                  have c4 : Q2 + 1 = q := by omega
                  clear hqe hlt
                  obtain rfl := c4
                  go_wp2_with fail
                  go_wp2
                  go_ret2
                  exact ⟨rfl, rfl⟩
                · go_wp2
                  go_round
                  case rel => exact ⟨q - 1, r + Y1, rfl, rfl, by have := HQR.out; rw [Int.sub_mul]; omega, by omega, by omega, by omega, by omega⟩
                  case measure => simp [intOf]; omega
              · obtain rfl : Q2 = q := Int.le_antisymm hq (dg_le HY.out HQR.out HP.out H2.out r2b (by omega) (by omega))
                clear HP
                go_wp2_with fail
                go_wp2
                go_ret2
                exact ⟨rfl, rfl⟩
        · go_wp2
          go_round
          case rel => exact ⟨q - 1, r + Y1, rfl, rfl, by have := HQR.out; rw [Int.sub_mul]; omega, by omega, by omega, by omega, by omega⟩
          case measure => simp [intOf]; omega
      · obtain rfl : Q1 = q := Int.le_antisymm hq (dg_le HY.out HQR.out HP.out H1.out r1b (by omega) (by omega))
        clear HP
        go_wp2_with fail
        go_loop [18, 16] (fun a b => ∃ q r : Int, a = .int .u64 q ∧ b = .int .u64 r ∧ q * Y1 + r = R1 ∧ 0 ≤ r ∧ r < 4294967296 ∧ Q2 ≤ q ∧ q < 8589934592) (fun a _ => (intOf a).toNat)
        case atStart => exact ⟨Z2, V2, by first | rfl | rw [hZ2], by first | rfl | rw [EV2.out], HVI2.out, hmod2.1, hmod2.2, HQI2.out, hZ21⟩
        case round =>
          obtain ⟨q, r, rfl, rfl, hqr, ra, rb, hq, hq'⟩ := hrel
          have HQR : Hid (q * Y1 + r = R1) := hqr
          clear hqr hZ2 HVI2 HQI2 EV2 hmod2 hZ21 eZV2
          by_cases c1 : 4294967296 ≤ q
          · have hlt : Q2 < q := by omega
            by_cases c3 : 4294967296 ≤ r + Y1
            · have hqe : Q2 = q - 1 := Int.le_antisymm (by omega) (dg_break (r := r + Y1) HY.out (by have := HQR.out; rw [Int.sub_mul]; omega) H2.out r2b (by omega) r1b l0a (by omega) y0a y0b c3)
              have c4 : Q2 + 1 = q := by omega
              clear hqe hlt
              obtain rfl := c4
              go_wp2_with fail
              go_wp2
              go_ret2
              exact ⟨rfl, rfl⟩
            · go_wp2
              go_round
              case rel => exact ⟨q - 1, r + Y1, rfl, rfl, by have := HQR.out; rw [Int.sub_mul]; omega, by omega, by omega, by omega, by omega⟩
              case measure => simp [intOf]; omega
          · obtain ⟨p, hp⟩ : ∃ p, q * Y0 = p := ⟨_, rfl⟩
            have HP : Hid (q * Y0 = p) := hp
            have pb : 0 ≤ p ∧ p < 18446744073709551616 := by
              have a1 := Int.mul_nonneg (show 0 ≤ q by omega) y0a
              have a2 := Int.mul_le_mul (a := q) (b := Y0) (c := 4294967295) (d := 4294967295) (by omega) (by omega) y0a (by omega)
              omega
            obtain ⟨pa, pb⟩ := pb
            by_cases c2 : 4294967296 * r + L0 < p
            · have hlt : Q2 < q := dg_gt HY.out HQR.out HP.out H2.out r2a (by omega) c2
              by_cases c3 : 4294967296 ≤ r + Y1
              · have hqe : Q2 = q - 1 := Int.le_antisymm (by omega) (dg_break (r := r + Y1) HY.out (by have := HQR.out; rw [Int.sub_mul]; omega) H2.out r2b (by omega) r1b l0a (by omega) y0a y0b c3)
                have c4 : Q2 + 1 = q := by omega
                clear hqe hlt
                obtain rfl := c4
                go_wp2_with fail
                go_wp2
                go_ret2
                exact ⟨rfl, rfl⟩
              · go_wp2
                go_round
                case rel => exact ⟨q - 1, r + Y1, rfl, rfl, by have := HQR.out; rw [Int.sub_mul]; omega, by omega, by omega, by omega, by omega⟩
                case measure => simp [intOf]; omega
            · obtain rfl : Q2 = q := Int.le_antisymm hq (dg_le HY.out HQR.out HP.out H2.out r2b (by omega) (by omega))
              clear HP
              go_wp2_with fail
              go_wp2
              go_ret2
              exact ⟨rfl, rfl⟩

theorem bitLenAux_zero (f : Nat) : Lib.bitLenAux f 0 = 0 := by cases f <;> simp [Lib.bitLenAux]
theorem bitLenAux_spec : ∀ (f x : Nat), x < 2 ^ f → x < 2 ^ Lib.bitLenAux f x ∧ (0 < x → 0 < Lib.bitLenAux f x ∧ 2 ^ (Lib.bitLenAux f x - 1) ≤ x)
  | 0, x, h => by simp at h; subst h; simp [Lib.bitLenAux]
  | f + 1, x, h => by
    unfold Lib.bitLenAux
    split
    · rename_i h0; subst h0; simp
    · rename_i h0
      by_cases hx : x / 2 = 0
      · rw [hx, bitLenAux_zero]
        obtain rfl : x = 1 := by omega
        simp
      · have ih := bitLenAux_spec f (x / 2) (by rw [Nat.pow_succ] at h; omega)
        generalize Lib.bitLenAux f (x / 2) = m at ih ⊢
        obtain ⟨hm, h2⟩ := ih.2 (by omega)
        have h3 := ih.1
        refine ⟨?_, fun _ => ⟨by omega, ?_⟩⟩
        · rw [Nat.add_comm, Nat.pow_succ]; omega
        · rw [show 1 + m - 1 = (m - 1) + 1 by omega, Nat.pow_succ]; omega
theorem bitLen_spec (x : Nat) (h : x < 18446744073709551616) (h0 : 0 < x) : x < 2 ^ Lib.bitLen x ∧ 0 < Lib.bitLen x ∧ 2 ^ (Lib.bitLen x - 1) ≤ x ∧ Lib.bitLen x ≤ 64 := by
  have a := bitLenAux_spec 64 x h
  exact ⟨a.1, (a.2 h0).1, (a.2 h0).2, Lib.bitLen_le x 64 (Nat.le_refl _) h⟩

theorem and_mask (a : Int) (h0 : 0 ≤ a) (h1 : a < 18446744073709551616) : bits BinOp.and IntKind.u64 a 4294967295 = a % 4294967296 := by
  obtain ⟨a, rfl⟩ := Int.eq_ofNat_of_zero_le h0
  have h := bits_and_u64_nat a 4294967295 (by omega) (by omega)
  have e : a &&& 4294967295 = a % 4294967296 := Nat.and_two_pow_sub_one_eq_mod a 32
  rw [e] at h
  have h2 : ((4294967295 : Nat) : Int) = 4294967295 := rfl
  rw [h2] at h
  rw [h]; omega
theorem or_low (x c s : Nat) (hc : c < 2 ^ s) (h : x * 2 ^ s + c < 18446744073709551616) : bits BinOp.or IntKind.u64 ((x * 2 ^ s : Nat) : Int) (c : Int) = ((x * 2 ^ s + c : Nat) : Int) := by
  rw [bits_or_u64_nat _ _ (by omega) (by omega)]
  have := Nat.two_pow_add_eq_or_of_lt hc x
  rw [Nat.mul_comm] at this
  rw [this]

/-- The 128 bits, shifted so that the divisor's highest bit is set. -/
theorem shifted (hi lo y n : Nat) (hl : lo < 18446744073709551616) (hy : hi < y) (hn : y < 2 ^ n) (hn1 : 0 < n) (hn0 : 2 ^ (n - 1) ≤ y) (hn2 : n ≤ 64) :
    y * 2 ^ (64 - n) < 18446744073709551616 ∧ 9223372036854775808 ≤ y * 2 ^ (64 - n) ∧ lo / 2 ^ n < 2 ^ (64 - n) ∧ hi * 2 ^ (64 - n) + lo / 2 ^ n < y * 2 ^ (64 - n) ∧
    (hi * 18446744073709551616 + lo) * 2 ^ (64 - n) = (hi * 2 ^ (64 - n) + lo / 2 ^ n) * 18446744073709551616 + lo * 2 ^ (64 - n) % 18446744073709551616 := by
  have e : 2 ^ n * 2 ^ (64 - n) = 18446744073709551616 := by rw [← Nat.pow_add, show n + (64 - n) = 64 by omega]
  have e1 : 2 ^ (n - 1) * 2 ^ (64 - n) = 9223372036854775808 := by rw [← Nat.pow_add, show n - 1 + (64 - n) = 63 by omega]
  have hS : 0 < 2 ^ (64 - n) := Nat.two_pow_pos _
  have hP : 0 < 2 ^ n := Nat.two_pow_pos _
  generalize 2 ^ (64 - n) = S at *
  generalize 2 ^ n = P at *
  have a1 : y * S < 18446744073709551616 := by rw [← e]; exact (Nat.mul_lt_mul_right hS).2 hn
  have a2 : 9223372036854775808 ≤ y * S := by rw [← e1]; exact Nat.mul_le_mul_right _ hn0
  have a3 : lo / P < S := by rw [Nat.div_lt_iff_lt_mul hP, Nat.mul_comm, e]; exact hl
  have a4 : hi * S + lo / P < y * S := by
    have : (hi + 1) * S ≤ y * S := Nat.mul_le_mul_right _ (by omega)
    rw [Nat.add_mul] at this; omega
  refine ⟨a1, a2, a3, a4, ?_⟩
  have b : lo * S / 18446744073709551616 = lo / P := by rw [← e]; exact Nat.mul_div_mul_right _ _ hS
  have c := Nat.div_add_mod (lo * S) 18446744073709551616
  rw [b] at c
  rw [Nat.add_mul, Nat.add_mul, Nat.mul_right_comm]
  omega

theorem cast5 (a b S U L K : Nat) (h : (a * K + b) * S = U * K + L) : ((a : Int) * (K : Int) + b) * (S : Int) = (U : Int) * (K : Int) + L := by exact_mod_cast h
theorem div_unique {x y q r : Int} (h : x = q * y + r) (h0 : 0 ≤ r) (h1 : r < y) : x / y = q ∧ x % y = r := by
  have hy : 0 < y := by omega
  have e : x = r + y * q := by rw [h, Int.mul_comm]; omega
  exact (Int.ediv_emod_unique hy).2 ⟨e.symm, h0, h1⟩

set_option maxHeartbeats 400000 in
theorem div64_zero (lo y : Int) (w : World) (hl0 : 0 ≤ lo) (_hl1 : lo < 18446744073709551616) (hy : 0 < y) (hy2 : y < 18446744073709551616) :
    Calls Tryd.prog 109 #[.int .u64 0, .int .u64 lo, .int .u64 y] w fun e w' => e = .returned (.tuple #[.int .u64 (lo / y), .int .u64 (lo % y)]) ∧ ∃ m, w' = w.drewN m := by
  have t1 : (y == 0) = false := by simp; omega
  have b1 : 0 ≤ lo / y := Int.ediv_nonneg hl0 (by omega)
  have b2 : lo / y < 18446744073709551616 := by
    have := Int.ediv_le_self y hl0
    omega
  have b3 : 0 ≤ lo % y := Int.emod_nonneg _ (by omega)
  have b4 : lo % y < y := Int.emod_lt_of_pos _ hy
  go_enter Tryd.func109, Tryd.ntmps109
  go_wp2_with fail
  go_quiet (fail)
  go_wp2
  go_ret2
  exact ⟨rfl, nq, rfl⟩

theorem div64_any (hi lo y : Int) (w : World) (h0 : 0 ≤ hi) (hl0 : 0 ≤ lo) (hl1 : lo < 18446744073709551616) (hy1 : hi < y) (hy2 : y < 18446744073709551616) :
    Calls Tryd.prog 109 #[.int .u64 hi, .int .u64 lo, .int .u64 y] w fun e w' => e = .returned (.tuple #[.int .u64 ((hi * 18446744073709551616 + lo) / y), .int .u64 ((hi * 18446744073709551616 + lo) % y)]) ∧ ∃ m, w' = w.drewN m := by
  by_cases hz : hi = 0
  · subst hz
    simpa using div64_zero lo y w hl0 hl1 (by omega) hy2
  obtain ⟨a, rfl⟩ := Int.eq_ofNat_of_zero_le h0
  obtain ⟨b, rfl⟩ := Int.eq_ofNat_of_zero_le hl0
  obtain ⟨c, rfl⟩ := Int.eq_ofNat_of_zero_le (show 0 ≤ y by omega)
  obtain ⟨s1, s2, s3, s4⟩ := bitLen_spec c (by omega) (by omega)
  generalize hn : Lib.bitLen c = n at *
  obtain ⟨c1, c2, c3, c4, c5⟩ := shifted a b c n (by omega) (by omega) s1 s2 s3 s4
  have c4' : a * 2 ^ (64 - n) < 18446744073709551616 := Nat.lt_of_le_of_lt (Nat.le_add_right _ (b / 2 ^ n)) (Nat.lt_trans c4 c1)
  have ew : ∀ x : Nat, (x : Int) * 2 ^ (64 - n) = ((x * 2 ^ (64 - n) : Nat) : Int) := fun x => by rw [Int.natCast_mul, Int.natCast_pow]; rfl
  have hS : 0 < 2 ^ (64 - n) := Nat.two_pow_pos _
  have hn64 : 64 - (64 - n) = n := by omega
  -- the numbers of the walk
  have eY : IntKind.u64.wrap ((c : Int) * 2 ^ (64 - n)) = ((c * 2 ^ (64 - n) : Nat) : Int) := by rw [ew, IntKind.wrap_u64]; omega
  have eH : IntKind.u64.wrap ((a : Int) * 2 ^ (64 - n)) = ((a * 2 ^ (64 - n) : Nat) : Int) := by rw [ew, IntKind.wrap_u64]; omega
  have eL : IntKind.u64.wrap ((b : Int) * 2 ^ (64 - n)) = ((b * 2 ^ (64 - n) % 18446744073709551616 : Nat) : Int) := by rw [ew, IntKind.wrap_u64]; omega
  have eD : (b : Int) / 2 ^ (64 - (64 - n)) = ((b / 2 ^ n : Nat) : Int) := by rw [hn64, Int.natCast_ediv, Int.natCast_pow]; rfl
  have eU : bits BinOp.or IntKind.u64 (IntKind.u64.wrap ((a : Int) * 2 ^ (64 - n))) ((b : Int) / 2 ^ (64 - (64 - n))) = ((a * 2 ^ (64 - n) + b / 2 ^ n : Nat) : Int) := by
    rw [eH, eD]; exact or_low a (b / 2 ^ n) (64 - n) c3 (by omega)
  have hdm : ∀ x : Int, x = x / 4294967296 * 4294967296 + x % 4294967296 := fun x => by omega
  generalize hYn : c * 2 ^ (64 - n) = Yn at *
  generalize hLn : b * 2 ^ (64 - n) % 18446744073709551616 = Ln at *
  generalize hUn : a * 2 ^ (64 - n) + b / 2 ^ n = Un at *
  have hLb : Ln < 18446744073709551616 := by rw [← hLn]; exact Nat.mod_lt _ (by decide)
  obtain ⟨Q1, R1, d1, d1a, d1b⟩ : ∃ Q R : Int, (Un : Int) * 4294967296 + (Ln : Int) / 4294967296 = Q * (Yn : Int) + R ∧ 0 ≤ R ∧ R < Yn :=
    ⟨_, _, by rw [Int.mul_comm _ (Yn : Int)]; exact (Int.mul_ediv_add_emod _ (Yn : Int)).symm, Int.emod_nonneg _ (by omega), Int.emod_lt_of_pos _ (by omega)⟩
  obtain ⟨Q2, R2, d2, d2a, d2b⟩ : ∃ Q R : Int, R1 * 4294967296 + (Ln : Int) % 4294967296 = Q * (Yn : Int) + R ∧ 0 ≤ R ∧ R < Yn :=
    ⟨_, _, by rw [Int.mul_comm _ (Yn : Int)]; exact (Int.mul_ediv_add_emod _ (Yn : Int)).symm, Int.emod_nonneg _ (by omega), Int.emod_lt_of_pos _ (by omega)⟩
  refine (div64_core a b c w (by omega) (by omega) (by omega) hy1 hy2 n (by show _ = _; simpa using hn) s2 s4 Yn ((Yn : Int) / 4294967296) ((Yn : Int) % 4294967296) Un Ln ((Ln : Int) / 4294967296) ((Ln : Int) % 4294967296) Q1 R1 Q2 R2
    eY rfl (and_mask _ (by omega) (by omega)) eU eL rfl (and_mask _ (by omega) (by omega)) (hdm _) (by omega) (by omega) (by omega) (by omega) (by omega) (by omega) (by omega) (by omega) (by omega) (by omega) (by omega) (by omega) (by omega) d1 d1a d1b d2 d2a d2b).mono ?_
  rintro e w' ⟨rfl, rfl⟩
  -- what they say of the quotient
  have key : ((a : Int) * 18446744073709551616 + b) * ((2 ^ (64 - n) : Nat) : Int) = (Q1 * 4294967296 + Q2) * Yn + R2 := by
    have h5 : ((a : Int) * 18446744073709551616 + b) * ((2 ^ (64 - n) : Nat) : Int) = (Un : Int) * 18446744073709551616 + Ln := cast5 a b _ Un Ln 18446744073709551616 c5
    have e6 : (Q1 * 4294967296 + Q2) * (Yn : Int) = Q1 * Yn * 4294967296 + Q2 * Yn := by rw [Int.add_mul, Int.mul_right_comm]
    rw [e6]
    refine h5.trans ?_
    generalize Q1 * (Yn : Int) = A1 at *
    generalize Q2 * (Yn : Int) = A2 at *
    clear h5 e6
    omega
  have hYc : (Yn : Int) = (c : Int) * ((2 ^ (64 - n) : Nat) : Int) := by rw [← hYn, Int.natCast_mul]
  have hpow : (2 : Int) ^ (64 - n) = ((2 ^ (64 - n) : Nat) : Int) := by rw [Int.natCast_pow]; rfl
  generalize 2 ^ (64 - n) = S at *
  have hSI : (0 : Int) < (S : Int) := by omega
  -- the rest is a multiple of S
  have hR : R2 = ((a : Int) * 18446744073709551616 + b - (Q1 * 4294967296 + Q2) * c) * S := by
    rw [Int.sub_mul, key, hYc, Int.mul_assoc]; omega
  obtain ⟨r, hr⟩ : ∃ r : Int, (a : Int) * 18446744073709551616 + b - (Q1 * 4294967296 + Q2) * c = r := ⟨_, rfl⟩
  rw [hr] at hR
  have r0 : 0 ≤ r := by
    rcases Int.lt_or_le r 0 with h | h
    · have := Int.mul_neg_of_neg_of_pos h hSI; omega
    · exact h
  have r1 : r < c := by
    have : r * S < c * S := by rw [← hR, ← hYc]; exact d2b
    exact Int.lt_of_mul_lt_mul_right this (by omega)
  obtain ⟨u1, u2⟩ := div_unique (x := (a : Int) * 18446744073709551616 + b) (y := c) (q := Q1 * 4294967296 + Q2) (r := r) (by omega) r0 r1
  refine ⟨?_, 0, rfl⟩
  rw [u1, u2, hpow, hR, Int.mul_ediv_cancel _ (by omega)]
end Go.Proofs.YtfelogbfijomiaaDoor

namespace Go.Proofs.YtfelogbfijomiaaDoor
open Go.RowKit

/-- cut, so many rounds of it (from the topmost limb down): the block, and the rest. -/
def cutR (us : List Int) (n : Nat) (d : Int) : Nat → List Int × Int
  | 0 => (us, 0)
  | j + 1 => ((cutR us n d j).1.set (n - 1 - j) (((cutR us n d j).2 * 18446744073709551616 + lm (cutR us n d j).1 (n - 1 - j)) / d), ((cutR us n d j).2 * 18446744073709551616 + lm (cutR us n d j).1 (n - 1 - j)) % d)
theorem quo_lt {r x d : Int} (h0 : 0 ≤ r) (h1 : r < d) (x0 : 0 ≤ x) (x1 : x < 18446744073709551616) : 0 ≤ (r * 18446744073709551616 + x) / d ∧ (r * 18446744073709551616 + x) / d < 18446744073709551616 := by
  refine ⟨Int.ediv_nonneg (by omega) (by omega), ?_⟩
  apply Int.ediv_lt_of_lt_mul (by omega)
  have : (r + 1) * 18446744073709551616 ≤ d * 18446744073709551616 := Int.mul_le_mul_of_nonneg_right (by omega) (by omega)
  omega
theorem cutR_ok {us : List Int} (n : Nat) {d : Int} (hu : AllW us) (hd : 0 < d) (j : Nat) : AllW (cutR us n d j).1 ∧ (cutR us n d j).1.length = us.length ∧ 0 ≤ (cutR us n d j).2 ∧ (cutR us n d j).2 < d := by
  induction j with
  | zero => simp [cutR, hu, hd]
  | succ j ih =>
    obtain ⟨h1, h2, h3, h4⟩ := ih
    obtain ⟨a, b⟩ := h1.at (n - 1 - j)
    exact ⟨h1.set _ _ (quo_lt h3 h4 a b), by simp [cutR, h2], Int.emod_nonneg _ (by omega), Int.emod_lt_of_pos _ hd⟩

set_option maxHeartbeats 1000000 in
theorem cut_any (g n cap : Nat) (us : List Int) (d : Int) (w : World) (hb : Blk w g us) (hfit : n ≤ us.length) (hm : us.length ≤ 1099511627776) (hu : AllW us) (hd0 : 0 < d) (hd1 : d < 18446744073709551616) :
    Calls Tryd.prog 101 #[.slice (some ⟨g, 0, none⟩) n cap, .int .u64 d] w fun e w' => e = .returned (.int .u64 (cutR us n d n).2) ∧ Blk w' g (cutR us n d n).1 ∧ Off g w w' := by
  go_enter Tryd.func101, Tryd.ntmps101
  go_wp2
  go_loopw [5, 6] (fun c i wr => ∃ j : Nat, j ≤ n ∧ i = .int .i64 ((n : Int) - 1 - j) ∧ c = .int .u64 (cutR us n d j).2 ∧ Blk wr g (cutR us n d j).1 ∧ Off g w wr) (fun _ i _ => (intOf i + 1).toNat)
  case atStart => exact ⟨0, Nat.zero_le _, by go_num, rfl, hb, Off.refl _ _⟩
  case round =>
    obtain ⟨j, hj, rfl, rfl, hbr, hoff⟩ := hrel
    obtain ⟨ok1, ok2, ok3, ok4⟩ := cutR_ok n hu hd0 j
    by_cases hlt : j < n
    · have HN : Hid (cutR us n d (j + 1) = ((cutR us n d j).1.set (n - 1 - j) (((cutR us n d j).2 * 18446744073709551616 + lm (cutR us n d j).1 (n - 1 - j)) / d), ((cutR us n d j).2 * 18446744073709551616 + lm (cutR us n d j).1 (n - 1 - j)) % d)) := rfl
      generalize hU : (cutR us n d j).1 = U at *
      generalize hC : (cutR us n d j).2 = C at *
      clear hU hC
      obtain ⟨i, hi⟩ : ∃ i, n - 1 - j = i := ⟨_, rfl⟩
      rw [hi] at HN
      have hij : (n : Int) - 1 - j = i := by omega
      have hcg := hbr.cell (i := i) (by omega)
      have hfg := hbr.frozen i
      obtain ⟨a10, a11⟩ := ok1.at i
      obtain ⟨qa, qb⟩ := quo_lt ok3 ok4 a10 a11
      generalize hX : lm U i = X at *
      have HI : Hid ((n : Int) - 1 - j = i) := hij
      have hin : (i : Int) < n := by omega
      have hjn : (j : Int) + 1 + i = n := by omega
      rw [hij]
      clear hX hij hb hi
      go_wp2_with fail
      refine (div64_any C X d wr ok3 a10 a11 ok4 hd1).mono ?_
      rintro e w1 ⟨rfl, m, rfl⟩
      have hfg2 : (wr.drewN m).frozen? ⟨g, i, none⟩ = false := (hbr.drewN m).frozen i
      have HB := (hbr.drewN m).set i ((C * 18446744073709551616 + X) / d)
      have HO := (hoff.drewN m).set i (.int .u64 ((C * 18446744073709551616 + X) / d))
      generalize hq : (C * 18446744073709551616 + X) / d = q at *
      generalize hr : (C * 18446744073709551616 + X) % d = r at *
      generalize hw2 : wr.drewN m = W2 at *
      have hcg2 : W2.cell? ⟨g, i, none⟩ = some (.int .u64 X) := by rw [← hw2]; simpa using hcg
      clear hw2 hq hr hbr hoff hcg hfg
      go_wp2
      go_roundw
      case rel => exact ⟨j + 1, by omega, by go_num, by rw [HN.out], by rw [HN.out]; exact HB, HO⟩
      case measure => simp [intOf]
    · obtain rfl : j = n := by omega
      go_wp2
      go_ret
      exact ⟨rfl, hbr, hoff⟩
end Go.Proofs.YtfelogbfijomiaaDoor

namespace Go.Proofs.YtfelogbfijomiaaDoor
open Go.RowKit

theorem mul64_any (x y p : Int) (hp : Hid (x * y = p)) (hx : 0 ≤ x) (hx' : x < 18446744073709551616) (hy : 0 ≤ y) (hy' : y < 18446744073709551616) (w : World) :
    Calls Tryd.prog 96 #[.int .u64 x, .int .u64 y] w fun e w' => e = .returned (.tuple #[.int .u64 (p / 18446744073709551616), .int .u64 (p % 18446744073709551616)]) ∧ w = w' := by
  obtain ⟨x, rfl⟩ := Int.eq_ofNat_of_zero_le hx
  obtain ⟨y, rfl⟩ := Int.eq_ofNat_of_zero_le hy
  have e : p = ((x * y : Nat) : Int) := by rw [← hp.out]; simp
  refine (mul64_nat x y (by omega) (by omega) w).mono ?_
  rintro e' w' ⟨rfl, rfl⟩
  refine ⟨?_, rfl⟩
  rw [e]
  rfl

theorem mul_bd {x y : Int} (hx : 0 ≤ x) (hx' : x < 18446744073709551616) (hy : 0 ≤ y) (hy' : y < 18446744073709551616) : 0 ≤ x * y ∧ x * y ≤ 340282366920938463426481119284349108225 := by
  refine ⟨Int.mul_nonneg hx hy, ?_⟩
  have := Int.mul_le_mul (a := x) (c := 18446744073709551615) (b := y) (d := 18446744073709551615) (by omega) (by omega) hy (by omega)
  exact this

/-- addTimes, so many rounds of it: the block, and the carry. -/
def mulR (us : List Int) (o : Nat) (ys : List Int) (l : Int) : Nat → List Int × Int
  | 0 => (us, 0)
  | k + 1 => ((mulR us o ys l k).1.set (o + k) ((lm (mulR us o ys l k).1 (o + k) + lm ys k * l + (mulR us o ys l k).2) % 18446744073709551616), (lm (mulR us o ys l k).1 (o + k) + lm ys k * l + (mulR us o ys l k).2) / 18446744073709551616)
theorem mulR_ok {us ys : List Int} (o : Nat) {l : Int} (hu : AllW us) (hy : AllW ys) (hl : Word l) (k : Nat) : AllW (mulR us o ys l k).1 ∧ (mulR us o ys l k).1.length = us.length ∧ 0 ≤ (mulR us o ys l k).2 ∧ (mulR us o ys l k).2 < 18446744073709551616 := by
  induction k with
  | zero => simp [mulR, hu]
  | succ k ih =>
    obtain ⟨h1, h2, h3, h4⟩ := ih
    have a := h1.at (o + k)
    have b := hy.at k
    have c := mul_bd b.1 b.2 hl.1 hl.2
    refine ⟨h1.set _ _ (word_mod _), by simp [mulR, h2], ?_, ?_⟩ <;> simp only [mulR] <;> omega

theorem mt_lo (a p c : Int) : (a + (p + c)) % 18446744073709551616 = (a + p + c) % 18446744073709551616 := by omega
theorem mt_hi (a p c : Int) : p / 18446744073709551616 + (p % 18446744073709551616 + c) / 18446744073709551616 + (a + (p + c) % 18446744073709551616) / 18446744073709551616 = (a + p + c) / 18446744073709551616 := by omega

set_option maxHeartbeats 1000000 in
theorem addTimes_any (g o n cap : Nat) (us : List Int) (b : Option Addr) (nb cb : Nat) (ys : List Int) (l : Int) (w : World) (hb : Blk w g us) (hfit : o + n ≤ us.length) (hm : us.length ≤ 1099511627776) (hu : AllW us)
    (hnb : nb = ys.length) (hle : nb ≤ n) (hr : Reads w b ys) (haw : ys ≠ [] → Away b g) (hy : AllW ys) (hl : Word l) :
    Calls Tryd.prog 77 #[.slice (some ⟨g, o, none⟩) n cap, .slice b nb cb, .int .u64 l] w fun e w' => e = .returned (.int .u64 (mulR us o ys l ys.length).2) ∧ Blk w' g (mulR us o ys l ys.length).1 ∧ Off g w w' := by
  subst hnb
  obtain ⟨l1, l2⟩ := hl
  go_enter Tryd.func77, Tryd.ntmps77
  go_wp2
  go_loopw [7, 15] (fun c i wr => ∃ k : Nat, k ≤ ys.length ∧ i = .int .i64 k ∧ c = .int .u64 (mulR us o ys l k).2 ∧ Blk wr g (mulR us o ys l k).1 ∧ Off g w wr) (fun _ i _ => ys.length - (intOf i).toNat)
  case atStart => exact ⟨0, Nat.zero_le _, rfl, rfl, hb, Off.refl _ _⟩
  case round =>
    obtain ⟨k, hk, rfl, rfl, hbr, hoff⟩ := hrel
    obtain ⟨ok1, ok2, ok3, ok4⟩ := mulR_ok o hu hy ⟨l1, l2⟩ k
    by_cases hlt : k < ys.length
    · obtain ⟨b2, o2, rfl, hc2⟩ := hr.at (by omega)
      have HN : Hid (mulR us o ys l (k + 1) = ((mulR us o ys l k).1.set (o + k) ((lm (mulR us o ys l k).1 (o + k) + lm ys k * l + (mulR us o ys l k).2) % 18446744073709551616), (lm (mulR us o ys l k).1 (o + k) + lm ys k * l + (mulR us o ys l k).2) / 18446744073709551616)) := rfl
      generalize hU : (mulR us o ys l k).1 = U at *
      generalize hC : (mulR us o ys l k).2 = C at *
      clear hU hC
      have HC2 : wr.cell? ⟨b2, o2 + k, none⟩ = some (.int .u64 (lm ys k)) := by rw [hoff.cell (p := ⟨b2, o2 + k, none⟩) (by exact haw (List.length_pos_iff.1 (by omega)) ⟨b2, o2, none⟩ rfl)]; exact hc2 k hlt
      have hcg := hbr.cell (i := o + k) (by omega)
      have hfg := hbr.frozen (o + k)
      obtain ⟨a10, a11⟩ := ok1.at (o + k)
      obtain ⟨a20, a21⟩ := hy.at k
      have hpb := mul_bd a20 a21 l1 l2
      obtain ⟨p, hp⟩ : ∃ p, lm ys k * l = p := ⟨_, rfl⟩
      rw [hp] at hpb
      have HP : Hid (lm ys k * l = p) := hp
      have HN2 : Hid (mulR us o ys l (k + 1) = (U.set (o + k) ((lm U (o + k) + p + C) % 18446744073709551616), (lm U (o + k) + p + C) / 18446744073709551616)) := by rw [hp] at HN; exact HN
      obtain ⟨p0, p1⟩ := hpb
      have HB := hbr.set (o + k) ((lm U (o + k) + (p + C)) % 18446744073709551616)
      have HO := hoff.set (o + k) (.int .u64 ((lm U (o + k) + (p + C)) % 18446744073709551616))
      have hkn : (k : Int) < (n : Int) := by omega
      clear hc2 hb hr haw hbr hoff hp HN
      have q0 : 0 ≤ p % 18446744073709551616 := by omega
      have q1 : 0 ≤ (p + C) % 18446744073709551616 := by omega
      go_wp2_with (first | (go_at_call 96; refine (mul64_any _ _ p HP a20 a21 l1 l2 _).mono ?_; rintro e w' ⟨rfl, rfl⟩) | simp only [add64_0 (p % 18446744073709551616) C q0 ok3] | simp only [add64_0 (lm U (o + k)) ((p + C) % 18446744073709551616) a10 q1])
      go_roundw
      case rel => exact ⟨k + 1, by omega, by go_num, by rw [HN2.out, ← mt_hi], by rw [HN2.out, ← mt_lo]; exact HB, HO⟩
      case measure => simp [intOf]; omega
    · obtain rfl : k = ys.length := by omega
      go_wp2
      go_ret
      exact ⟨rfl, hbr, hoff⟩
end Go.Proofs.YtfelogbfijomiaaDoor

namespace Go.Proofs.YtfelogbfijomiaaDoor
open Go.RowKit

/-- Mul's loop, so many rounds of it. -/
def mulO (xs ys : List Int) (N : Nat) : Nat → List Int
  | 0 => List.replicate N 0
  | k + 1 => (mulR (mulO xs ys N k) k ys (lm xs k) ys.length).1.set (k + ys.length) (mulR (mulO xs ys N k) k ys (lm xs k) ys.length).2
theorem mulO_ok {xs ys : List Int} (N : Nat) (hx : AllW xs) (hy : AllW ys) (k : Nat) : AllW (mulO xs ys N k) ∧ (mulO xs ys N k).length = N := by
  induction k with
  | zero => exact ⟨AllW.replicate _, by simp [mulO]⟩
  | succ k ih =>
    have h := mulR_ok (us := mulO xs ys N k) k ih.1 hy (hx.at k) ys.length
    exact ⟨h.1.set _ _ ⟨h.2.2.1, h.2.2.2⟩, by simp [mulO, h.2.1, ih.2]⟩
/-- The product's limbs, ahead of the last cut. -/
def mulL (xs ys : List Int) : List Int := mulO (trimL xs) (trimL ys) (tlen xs + tlen ys) (tlen xs)

set_option maxHeartbeats 1000000 in
theorem mul_any (a b : Option Addr) (na nb ca cb : Nat) (xs ys : List Int) (w : World) (hna : na = xs.length) (hnb : nb = ys.length) (hla : na ≤ ca) (hlb : nb ≤ cb)
    (hma : na ≤ 400000000000) (hmb : nb ≤ 400000000000) (hra : Reads w a xs) (hrb : Reads w b ys) (hx : AllW xs) (hy : AllW ys) :
    Calls Tryd.prog 49 #[.slice a na ca, .slice b nb cb] w fun e w' => Res w w' e (mulL xs ys) := by
  have ta : tlen xs ≤ xs.length := tl_le _ _
  have tb : tlen ys ≤ ys.length := tl_le _ _
  subst hna hnb
  go_enter Tryd.func49, Tryd.ntmps49
  go_wp2_with fail
  refine (trim_any a _ ca xs _ rfl hla (by omega) hra).mono ?_
  rintro e w1 ⟨rfl, rfl⟩
  go_wp2_with fail
  refine (trim_any b _ cb ys _ rfl hlb (by omega) hrb).mono ?_
  rintro e w1 ⟨rfl, rfl⟩
  have hra' := hra.take (tlen xs)
  have hrb' := hrb.take (tlen ys)
  have HX : Hid ((trimL xs).length = tlen xs) := length_trimL xs
  have HY : Hid ((trimL ys).length = tlen ys) := length_trimL ys
  have hra2 : Reads w a (trimL xs) := hra'
  have hrb2 : Reads w b (trimL ys) := hrb'
  have hx2 : AllW (trimL xs) := hx.take _
  have hy2 : AllW (trimL ys) := hy.take _
  have HM : Hid (mulL xs ys = mulO (trimL xs) (trimL ys) (tlen xs + tlen ys) (tlen xs)) := rfl
  clear hra hrb hra' hrb' hx hy
  generalize trimL xs = X at *
  generalize trimL ys = Y at *
  generalize tlen xs = n at *
  generalize tlen ys = m at *
  go_wp2_with (at_make; refine wpList_makeB _ rfl _ _ rfl _ _ (n + m) rfl rfl (by omega) (by omega) (by omega) ?_)
  intro w1 hb1 hbel1
  go_wp2
  go_loopw [20] (fun i wr => ∃ k : Nat, k ≤ n ∧ i = .int .i64 k ∧ Blk wr w.heap.size (mulO X Y (n + m) k) ∧ Below w.heap.size w wr) (fun i _ => n - (intOf i).toNat)
  case atStart => exact ⟨0, Nat.zero_le _, rfl, hb1, hbel1⟩
  case round =>
    obtain ⟨k, hk, rfl, hbr, hbel⟩ := hrel
    obtain ⟨ok1, ok2⟩ := mulO_ok (n + m) hx2 hy2 k
    clear hb1 hbel1
    by_cases hlt : k < n
    · obtain ⟨b2, o2, rfl, hc2⟩ := hra2.at (by rw [HX.out]; omega)
      have h2 := hc2 k (by rw [HX.out]; omega)
      have hblt := World.block_lt_of_cell? _ _ h2
      have HC2 : wr.cell? ⟨b2, o2 + k, none⟩ = some (.int .u64 (lm X k)) := by rw [hbel.cell (p := ⟨b2, o2 + k, none⟩) (by simpa using hblt)]; exact h2
      have hw := hx2.at k
      have HN : Hid (mulO X Y (n + m) (k + 1) = (mulR (mulO X Y (n + m) k) k Y (lm X k) Y.length).1.set (k + Y.length) (mulR (mulO X Y (n + m) k) k Y (lm X k) Y.length).2) := rfl
      have hrok := mulR_ok (us := mulO X Y (n + m) k) k ok1 hy2 hw Y.length
      generalize mulO X Y (n + m) k = U at *
      clear hc2 h2
      go_wp2_with fail
      refine (addTimes_any w.heap.size k (n + m - k) (n + m - k) U b m cb Y (lm X k) wr hbr (by omega) (by omega) ok1 HY.out.symm (by omega) (hrb2.below hbel) (fun hne p hp => ?haw) hy2 hw).mono ?_
      case haw => have := hrb2.lt hne p hp; omega
      rintro e w2 ⟨rfl, hb2, hoff⟩
      have hbel2 : Below w.heap.size w w2 := hbel.trans (hoff.below (Nat.le_refl _))
      obtain ⟨r1, r2, r3, r4⟩ := hrok
      rw [HY.out] at HN r1 r2 r3 r4 hb2
      simp only [HY.out]
      generalize (mulR U k Y (lm X k) m).1 = V at *
      generalize (mulR U k Y (lm X k) m).2 = D at *
      have hcg := hb2.cell (i := k + m) (by omega)
      have hfg := hb2.frozen (k + m)
      have HB := hb2.set (k + m) D
      have HO := hbel2.setCell (p := ⟨w.heap.size, k + m, none⟩) (Nat.le_refl _) (.int .u64 D)
      clear hoff hbr hbel hb2 hbel2
      go_wp2
      go_roundw
      case rel => exact ⟨k + 1, by omega, by go_num, by rw [HN.out]; exact HB, HO⟩
      case measure => simp [intOf]; omega
    · obtain rfl : k = n := by omega
      rw [← HM.out] at hbr ok2
      have HL : Hid ((mulL xs ys).length = k + m) := ok2
      clear ok2 ok1
      go_wp2_with fail
      refine (trim_any (some ⟨w.heap.size, 0, none⟩) (k + m) (k + m) (mulL xs ys) wr HL.out.symm (Nat.le_refl _) (by omega) hbr.reads').mono ?_
      rintro e w4 ⟨rfl, rfl⟩
      go_wp2
      go_ret
      exact ⟨w.heap.size, ret_slice2 rfl HL.out.symm, Nat.le_refl _, hbr, hbel⟩
end Go.Proofs.YtfelogbfijomiaaDoor

namespace Go.Proofs.YtfelogbfijomiaaDoor
open Go.RowKit

set_option maxHeartbeats 400000 in
theorem of_any (v : Int) (w : World) (h0 : 0 ≤ v) (h1 : v < 18446744073709551616) :
    Calls Tryd.prog 50 #[.int .u64 v] w fun e w' => ∃ a cap, e = .returned (.slice a (tlen [v]) cap) ∧ Own w' w.heap.size a cap (trimL [v]) ∧ Below w.heap.size w w' := by
  by_cases hv : v = 0
  · subst hv
    go_enter Tryd.func50, Tryd.ntmps50
    go_wp2
    go_ret
    exact ⟨none, 0, rfl, .inl ⟨rfl, rfl, rfl⟩, Below.refl _ _⟩
  · have t1 : (v == 0) = false := by simpa using hv
    go_enter Tryd.func50, Tryd.ntmps50
    go_wp2
    go_ret
    have e1 : tlen [v] = 1 := by simp [tlen, tl, lm, hv]
    have e2 : trimL [v] = [v] := by simp [trimL, e1]
    refine ⟨some ⟨w.heap.size, 0, none⟩, 1, by rw [e1]; rfl, ?_, (Below.refl _ _).alloc (Nat.le_refl _) _⟩
    rw [e2]
    exact .inr ⟨w.heap.size, [v], rfl, Nat.le_refl _, by unfold Blk; rw [heap_alloc_new]; rfl, rfl, by simp, by simp⟩

/-- How many bits. -/
def bitsL (xs : List Int) : Int := if tlen xs = 0 then 0 else ((tlen xs : Int) - 1) * 64 + Lib.bitLen (lm xs (tlen xs - 1)).toNat
theorem bitLen_le64 {x : Int} (h1 : x < 18446744073709551616) : Lib.bitLen x.toNat ≤ 64 := Lib.bitLen_le _ 64 (Nat.le_refl _) (by omega)
set_option maxHeartbeats 400000 in
theorem bits_any (a : Option Addr) (n cap : Nat) (xs : List Int) (w : World) (hn : n = xs.length) (hl : n ≤ cap) (hm : n ≤ 1099511627776) (hr : Reads w a xs) (hx : AllW xs) :
    Calls Tryd.prog 58 #[.slice a n cap] w fun e w' => e = .returned (.int .i64 (bitsL xs)) ∧ w = w' := by
  have ta : tlen xs ≤ xs.length := tl_le _ _
  subst hn
  go_enter Tryd.func58, Tryd.ntmps58
  go_wp2_with fail
  refine (trim_any a _ cap xs _ rfl hl hm hr).mono ?_
  rintro e w1 ⟨rfl, rfl⟩
  have HB : Hid (bitsL xs = if tlen xs = 0 then 0 else ((tlen xs : Int) - 1) * 64 + Lib.bitLen (lm xs (tlen xs - 1)).toNat) := rfl
  generalize tlen xs = m at *
  by_cases h0 : m = 0
  · subst h0
    go_wp2
    go_ret
    exact ⟨ret_int (by rw [HB.out]; rfl), rfl⟩
  · obtain ⟨k, rfl⟩ : ∃ k, m = k + 1 := ⟨m - 1, by omega⟩
    obtain ⟨b1, o1, rfl, hc1⟩ := hr.at (by omega)
    have h1 := hc1 k (by omega)
    obtain ⟨x0, x1⟩ := hx.at k
    have HB2 : Hid (bitsL xs = (k : Int) * 64 + Lib.bitLen (lm xs k).toNat) := by
      show _ = _
      rw [HB.out, if_neg (by omega), show k + 1 - 1 = k by omega]
      have : (((k + 1 : Nat) : Int) - 1) = k := by omega
      rw [this]
    have hbl := bitLen_le64 x1
    clear hc1 HB
    generalize lm xs k = X at *
    go_wp2_with fail
    refine (len64_any X _ x0 x1).mono ?_
    rintro e w1 ⟨rfl, rfl⟩
    generalize Lib.bitLen X.toNat = L at *
    go_wp2
    go_ret
    exact ⟨ret_int HB2.out.symm, rfl⟩

/-- What cut leaves, and the rest. -/
def quoW (xs : List Int) (d : Int) : List Int := (cutR (trimL xs) (tlen xs) d (tlen xs)).1
def remW (xs : List Int) (d : Int) : Int := (cutR (trimL xs) (tlen xs) d (tlen xs)).2

set_option maxHeartbeats 1000000 in
/-- DivMod by a number of one limb, where the first one has a limb at least. -/
theorem divmod_word (a b : Option Addr) (na nb ca cb : Nat) (xs ys : List Int) (w : World) (hna : na = xs.length) (hnb : nb = ys.length) (hla : na ≤ ca) (hlb : nb ≤ cb)
    (hma : na ≤ 1000000000000) (hmb : nb ≤ 1000000000000) (hra : Reads w a xs) (hrb : Reads w b ys) (hx : AllW xs) (hy : AllW ys) (h1 : tlen ys = 1) (h2 : 1 ≤ tlen xs) (D : Int) (hD : lm ys 0 = D) (hd : 0 < D) :
    Calls Tryd.prog 87 #[.slice a na ca, .slice b nb cb] w fun e w' => ∃ g c capc, e = .returned (.tuple #[.slice (some ⟨g, 0, none⟩) (tlen (quoW xs D)) (tlen xs), .slice c (tlen [remW xs D]) capc, .nilIface]) ∧
      w.heap.size ≤ g ∧ Blk w' g (quoW xs D) ∧ Own w' (g + 1) c capc (trimL [remW xs D]) ∧ Below w.heap.size w w' := by
  have ta : tlen xs ≤ xs.length := tl_le _ _
  have tb : tlen ys ≤ ys.length := tl_le _ _
  subst hna hnb
  obtain ⟨b2, o2, rfl, hc2⟩ := hrb.at (by omega)
  have hy0 := hc2 0 (by omega)
  have hlt0 := World.block_lt_of_cell? _ _ hy0
  obtain ⟨d0, d1⟩ := hy.at 0
  rw [hD] at hy0 d0 d1
  go_enter Tryd.func87, Tryd.ntmps87
  go_wp2_with fail
  refine (trim_any a _ ca xs _ rfl hla (by omega) hra).mono ?_
  rintro e w1 ⟨rfl, rfl⟩
  go_wp2_with fail
  refine (trim_any _ _ cb ys _ rfl hlb (by omega) hrb).mono ?_
  rintro e w1 ⟨rfl, rfl⟩
  rw [h1]
  have H1 : Hid (tlen ys = 1) := h1
  clear h1 hrb hy hc2
  clear hD
  have t1 : ((1 : Int) == 0) = false := rfl
  have HX : Hid ((trimL xs).length = tlen xs) := length_trimL xs
  go_wp2_with fail
  refine (norm_any a (tlen xs) ca (trimL xs) _ HX.out.symm (by omega) (by omega) (hra.take _)).mono ?_
  rintro e w1 ⟨g, rfl, hg, hb1, hbel1⟩
  have ett : tlen (trimL xs) = tlen xs := tlen_trimL xs
  rw [ett]
  rw [trimL_trimL] at hb1
  clear ett
  have hcell : w1.cell? ⟨b2, o2, none⟩ = some (.int .u64 D) := by
    rw [hbel1.cell (p := ⟨b2, o2, none⟩) (by simpa using hlt0)]; simpa using hy0
  have HQ : Hid (quoW xs D = (cutR (trimL xs) (tlen xs) D (tlen xs)).1) := rfl
  have HR : Hid (remW xs D = (cutR (trimL xs) (tlen xs) D (tlen xs)).2) := rfl
  have hcut := cutR_ok (us := trimL xs) (tlen xs) (hx.take _) hd (tlen xs)
  go_wp2_with fail
  refine (cut_any g (tlen xs) (tlen xs) (trimL xs) D w1 hb1 (by rw [HX.out]; exact Nat.le_refl _) (by rw [HX.out]; omega) (hx.take _) hd d1).mono ?_
  rintro e w2 ⟨rfl, hb2, hoff⟩
  rw [← HQ.out] at hb2
  rw [← HR.out]
  rw [← HR.out] at hcut
  have hlq : (quoW xs D).length = tlen xs := by rw [HQ.out, hcut.2.1, HX.out]
  have HLQ : Hid ((quoW xs D).length = tlen xs) := hlq
  obtain ⟨_, _, r0, r1⟩ := hcut
  have hbel2 : Below w.heap.size w w2 := hbel1.trans (hoff.below hg)
  clear hlq hoff hb1 hcell hbel1 HQ HR
  go_wp2_with fail
  refine (of_any (remW xs D) w2 r0 (by omega)).mono ?_
  rintro e w3 ⟨c, capc, rfl, hown, hbel3⟩
  have hb3 : Blk w3 g (quoW xs D) := hb2.below hbel3 hb2.lt
  have hlt2 := hb2.lt
  go_wp2_with fail
  refine (trim_any (some ⟨g, 0, none⟩) (tlen xs) (tlen xs) (quoW xs D) w3 HLQ.out.symm (Nat.le_refl _) (by omega) hb3.reads').mono ?_
  rintro e w4 ⟨rfl, rfl⟩
  go_wp2
  go_ret3
  exact ⟨g, c, capc, rfl, hg, hb3, hown.mono (B' := g + 1) hlt2, hbel2.trans (hbel3.mono hbel2.size)⟩
end Go.Proofs.YtfelogbfijomiaaDoor

namespace Go.Proofs.YtfelogbfijomiaaDoor
open Go.RowKit

theorem bel_tr {w W w1 : World} (h : Below w.heap.size w W) (k : Below W.heap.size W w1) : Below w.heap.size w w1 := h.trans (k.mono h.size)
theorem blk_new {w : World} (us : List Int) : Blk (w.alloc (.cells (us.map (Value.int .u64)).toArray 64)) w.heap.size us := by
  unfold Blk; rw [heap_alloc_new]
theorem blk_new2 {w : World} (o : Obj) (us : List Int) : Blk ((w.alloc o).alloc (.cells (us.map (Value.int .u64)).toArray 64)) (w.heap.size + 1) us := by
  have := blk_new (w := w.alloc o) us
  simpa using this
theorem below2 (w : World) (o p : Obj) : Below w.heap.size w ((w.alloc o).alloc p) := ((Below.refl _ _).alloc (Nat.le_refl _) _).alloc (by simp) _
end Go.Proofs.YtfelogbfijomiaaDoor

namespace Go.Proofs.YtfelogbfijomiaaDoor
open Go.RowKit

/-! ### What the limbs are worth -/
def pw (k : Nat) : Int := 18446744073709551616 ^ k
theorem pw_zero : pw 0 = 1 := rfl
theorem pw_succ (k : Nat) : pw (k + 1) = pw k * 18446744073709551616 := Int.pow_succ _ _
theorem pw_pos (k : Nat) : 0 < pw k := Int.pow_pos (by decide)
theorem pw_add (a b : Nat) : pw (a + b) = pw a * pw b := Int.pow_add _ _ _
theorem pw_mono {a b : Nat} (h : a ≤ b) : pw a ≤ pw b := by
  obtain ⟨c, rfl⟩ : ∃ c, b = a + c := ⟨b - a, by omega⟩
  rw [pw_add]
  have h1 := pw_pos c
  have h2 := pw_pos a
  have := Int.mul_le_mul_of_nonneg_left (a := 1) (b := pw c) (c := pw a) (by omega) (by omega)
  omega
/-- The first n limbs' worth. -/
def vS (us : List Int) : Nat → Int
  | 0 => 0
  | n + 1 => vS us n + lm us n * pw n
def val (us : List Int) : Int := vS us us.length

theorem vS_congr {us vs : List Int} {n : Nat} (h : ∀ i, i < n → lm us i = lm vs i) : vS us n = vS vs n := by
  induction n with
  | zero => rfl
  | succ n ih => simp only [vS]; rw [ih (fun i hi => h i (by omega)), h n (by omega)]
theorem vS_set_ge {us : List Int} {n i : Nat} {z : Int} (h : n ≤ i) : vS (us.set i z) n = vS us n :=
  vS_congr fun j hj => by rw [lm_set, if_neg (by omega)]
theorem vS_set {us : List Int} {n i : Nat} (z : Int) (h : i < n) (hl : i < us.length) : vS (us.set i z) n = vS us n + (z - lm us i) * pw i := by
  induction n with
  | zero => omega
  | succ n ih =>
    simp only [vS]
    rcases Nat.lt_or_ge i n with h1 | h1
    · rw [ih h1, lm_set, if_neg (by omega)]; omega
    · obtain rfl : i = n := by omega
      rw [vS_set_ge (Nat.le_refl _), lm_set, if_pos ⟨rfl, hl⟩, Int.sub_mul]; omega
theorem vS_tail {us : List Int} {m n : Nat} (hmn : m ≤ n) (h : ∀ i, m ≤ i → i < n → lm us i = 0) : vS us n = vS us m := by
  induction n with
  | zero => obtain rfl : m = 0 := by omega
            rfl
  | succ n ih =>
    rcases Nat.lt_or_ge n m with h1 | h1
    · obtain rfl : m = n + 1 := by omega
      rfl
    · simp only [vS]; rw [ih h1 (fun i a b => h i a (by omega)), h n h1 (by omega)]; omega
theorem vS_long {us : List Int} {n : Nat} (h : us.length ≤ n) : vS us n = val us := vS_tail h (fun _ a _ => lm_ge a)
theorem vS_nn {us : List Int} (hu : AllW us) (n : Nat) : 0 ≤ vS us n ∧ vS us n < pw n := by
  induction n with
  | zero => simp [vS, pw]
  | succ n ih =>
    simp only [vS]
    rw [pw_succ]
    have h := hu.at n
    have hp := pw_pos n
    have h1 : 0 ≤ lm us n * pw n := Int.mul_nonneg h.1 (by omega)
    have h2 : lm us n * pw n ≤ 18446744073709551615 * pw n := Int.mul_le_mul_of_nonneg_right (by omega) (by omega)
    omega
theorem val_nn {us : List Int} (hu : AllW us) : 0 ≤ val us := (vS_nn hu _).1
theorem val_lt {us : List Int} (hu : AllW us) : val us < pw us.length := (vS_nn hu _).2
theorem vS_trim (xs : List Int) : vS xs (tlen xs) = val xs := (vS_tail (tl_le _ _) (tl_spec xs xs.length).1).symm
theorem val_trimL (xs : List Int) : val (trimL xs) = val xs := by
  unfold val
  rw [length_trimL]
  show _ = val xs
  rw [← vS_trim]
  exact vS_congr fun i hi => by unfold trimL; rw [lm_take hi]
theorem AllW.trim {xs : List Int} (h : AllW xs) : AllW (trimL xs) := h.take _
theorem lm_trimL {xs : List Int} {i : Nat} (h : i < tlen xs) : lm (trimL xs) i = lm xs i := by unfold trimL; rw [lm_take h]

/-- With k limbs that count a number is as great as the k-1st power. -/
theorem val_ge {xs : List Int} (hx : AllW xs) (h : 0 < tlen xs) : pw (tlen xs - 1) ≤ val xs := by
  rw [← vS_trim]
  obtain ⟨k, hk⟩ : ∃ k, tlen xs = k + 1 := ⟨tlen xs - 1, by omega⟩
  rw [hk]
  simp only [vS]
  have hne := (tl_spec xs xs.length).2 h
  have e : tl xs xs.length = k + 1 := hk
  rw [e] at hne
  simp only [Nat.add_sub_cancel] at hne ⊢
  have h1 := hx.at k
  have h2 := (vS_nn hx k).1
  have h3 : 1 * pw k ≤ lm xs k * pw k := Int.mul_le_mul_of_nonneg_right (by omega) (by have := pw_pos k; omega)
  omega
theorem val_lt_tlen {xs : List Int} (hx : AllW xs) : val xs < pw (tlen xs) := by rw [← vS_trim]; exact (vS_nn hx _).2
theorem tlen_zero {xs : List Int} (hx : AllW xs) : tlen xs = 0 ↔ val xs = 0 := by
  constructor
  · intro h; have := val_lt_tlen hx; have h2 := val_nn hx; rw [h, pw_zero] at this; omega
  · intro h
    rcases Nat.eq_zero_or_pos (tlen xs) with e | e
    · exact e
    · have := val_ge hx e; have h2 := pw_pos (tlen xs - 1); omega
theorem tlen_mono {xs ys : List Int} (hx : AllW xs) (hy : AllW ys) (h : val xs ≤ val ys) : tlen xs ≤ tlen ys := by
  rcases Nat.lt_or_ge (tlen ys) (tlen xs) with e | e
  · have h1 := val_ge hx (by omega)
    have h2 := val_lt_tlen hy
    have h3 := pw_mono (show tlen ys ≤ tlen xs - 1 by omega)
    omega
  · exact e

/-! ### the order -/
theorem cmpTo_val {xs ys : List Int} (hx : AllW xs) (hy : AllW ys) (k : Nat) : (cmpTo xs ys k = 0 ∧ vS xs k = vS ys k) ∨ (cmpTo xs ys k = -1 ∧ vS xs k < vS ys k) ∨ (cmpTo xs ys k = 1 ∧ vS ys k < vS xs k) := by
  induction k with
  | zero => simp [cmpTo, vS]
  | succ k ih =>
    simp only [vS]
    by_cases h : lm xs k = lm ys k
    · rw [cmpTo_eq h, h]; omega
    · rw [cmpTo_ne h]
      have a := vS_nn hx k
      have b := vS_nn hy k
      have hp := pw_pos k
      by_cases h2 : lm xs k < lm ys k
      · have := Int.mul_le_mul_of_nonneg_right (a := lm xs k + 1) (b := lm ys k) (c := pw k) (by omega) (by omega)
        rw [Int.add_mul] at this
        right; left
        exact ⟨by simp [ordI, h2], by omega⟩
      · have := Int.mul_le_mul_of_nonneg_right (a := lm ys k + 1) (b := lm xs k) (c := pw k) (by omega) (by omega)
        rw [Int.add_mul] at this
        right; right
        exact ⟨by simp [ordI, h2], by omega⟩
theorem cmpL_val {xs ys : List Int} (hx : AllW xs) (hy : AllW ys) : (cmpL xs ys = 0 ∧ val xs = val ys) ∨ (cmpL xs ys = -1 ∧ val xs < val ys) ∨ (cmpL xs ys = 1 ∧ val ys < val xs) := by
  unfold cmpL
  by_cases h : tlen xs = tlen ys
  · rw [if_pos h]
    have := cmpTo_val hx hy (tlen xs)
    have e : vS ys (tlen xs) = val ys := by rw [h, vS_trim]
    rw [vS_trim, e] at this
    exact this
  · rw [if_neg h]
    by_cases h2 : tlen xs < tlen ys
    · right; left
      refine ⟨by simp [ordI, h2], ?_⟩
      have h1 := val_ge hy (by omega)
      have h3 := val_lt_tlen hx
      have h4 := pw_mono (show tlen xs ≤ tlen ys - 1 by omega)
      omega
    · right; right
      refine ⟨by simp [ordI, h2], ?_⟩
      have h1 := val_ge hx (by omega)
      have h3 := val_lt_tlen hy
      have h4 := pw_mono (show tlen ys ≤ tlen xs - 1 by omega)
      omega
theorem cmpL_zero {xs ys : List Int} (hx : AllW xs) (hy : AllW ys) (h : val xs = val ys) : cmpL xs ys = 0 := by
  rcases cmpL_val hx hy with h1 | h1 | h1 <;> omega
theorem bitsL_zero {xs : List Int} (hx : AllW xs) (h : val xs = 0) : bitsL xs = 0 := by
  unfold bitsL; rw [if_pos ((tlen_zero hx).2 h)]

/-! ### sums -/
theorem mod_mul (s T : Int) : (s % 18446744073709551616) * T + s / 18446744073709551616 * (T * 18446744073709551616) = s * T := by
  have h : s = s % 18446744073709551616 + s / 18446744073709551616 * 18446744073709551616 := by omega
  have e : s / 18446744073709551616 * (T * 18446744073709551616) = s / 18446744073709551616 * 18446744073709551616 * T := by
    rw [Int.mul_comm T, Int.mul_assoc]
  rw [e, ← Int.add_mul, ← h]
theorem addR_val {us ys : List Int} (o : Nat) (k N : Nat) (h : o + k ≤ N) (hl : o + k ≤ us.length) : vS (addR us o ys k).1 N + (addR us o ys k).2 * pw (o + k) = vS us N + pw o * vS ys k := by
  induction k with
  | zero => simp [addR, vS]
  | succ k ih =>
    have ih := ih (by omega) (by omega)
    simp only [addR, vS]
    have hlen : (addR us o ys k).1.length = us.length := length_addR _ _ _ _
    generalize (addR us o ys k).1 = U at *
    generalize (addR us o ys k).2 = C at *
    rw [vS_set _ (by omega) (by omega), show o + (k + 1) = (o + k) + 1 by omega, pw_succ, Int.mul_add]
    have e1 := mod_mul (lm U (o + k) + lm ys k + C) (pw (o + k))
    have e2 : pw o * (lm ys k * pw k) = lm ys k * pw (o + k) := by rw [pw_add, Int.mul_left_comm]
    rw [e2]
    rw [Int.sub_mul]
    rw [Int.add_mul, Int.add_mul] at e1
    generalize (lm U (o + k) + lm ys k + C) % 18446744073709551616 * pw (o + k) = A at *
    generalize (lm U (o + k) + lm ys k + C) / 18446744073709551616 * (pw (o + k) * 18446744073709551616) = D at *
    omega
theorem rip_val (o n N : Nat) : ∀ (f : Nat) (u : List Int) (c : Int), f ≤ n → AllW u → 0 ≤ c → c ≤ 1 → o + n ≤ N → o + n ≤ u.length → AllW (rip o n f u c) ∧ ∃ c', 0 ≤ c' ∧ c' ≤ 1 ∧ vS (rip o n f u c) N + c' * pw (o + n) = vS u N + c * pw (o + (n - f))
  | 0, u, c, _, hu, h0, h1, _, _ => ⟨hu, c, h0, h1, by simp [rip]⟩
  | f + 1, u, c, hf, hu, h0, h1, hN, hl => by
    unfold rip
    split
    · have a := hu.at (o + (n - (f + 1)))
      obtain ⟨h2, c', h3, h4, h5⟩ := rip_val o n N f (u.set (o + (n - (f + 1))) ((lm u (o + (n - (f + 1))) + c) % 18446744073709551616)) ((lm u (o + (n - (f + 1))) + c) / 18446744073709551616) (by omega) (hu.set _ _ (word_mod _)) (by omega) (by omega) hN (by simpa using hl)
      refine ⟨h2, c', h3, h4, ?_⟩
      rw [h5, vS_set _ (by omega) (by omega), show o + (n - f) = (o + (n - (f + 1))) + 1 by omega, pw_succ]
      have e1 := mod_mul (lm u (o + (n - (f + 1))) + c) (pw (o + (n - (f + 1))))
      rw [Int.add_mul] at e1
      rw [Int.sub_mul]
      omega
    · exact ⟨hu, 0, by omega, by omega, by have : c = 0 := by omega
                                           rw [this]; simp⟩
theorem addF_val {us ys : List Int} {n : Nat} (hu : AllW us) (hy : AllW ys) (hn : n = us.length) (hle : ys.length ≤ n) (hb : val us + val ys < pw n) : AllW (addF us 0 n ys) ∧ val (addF us 0 n ys) = val us + val ys := by
  obtain ⟨a1, a2, a3, a4⟩ := addR_ok 0 hu hy ys.length
  have e := addR_val (us := us) (ys := ys) 0 ys.length n (by omega) (by omega)
  unfold addF
  obtain ⟨h2, c', h3, h4, h5⟩ := rip_val 0 n n (n - ys.length) (addR us 0 ys ys.length).1 (addR us 0 ys ys.length).2 (by omega) a1 a3 a4 (by omega) (by omega)
  refine ⟨h2, ?_⟩
  rw [show 0 + (n - (n - ys.length)) = 0 + ys.length by omega, e, pw_zero] at h5
  have hlen : (rip 0 n (n - ys.length) (addR us 0 ys ys.length).1 (addR us 0 ys ys.length).2).length = n := by rw [length_rip, a2, hn]
  have e6 : vS us n = val us := by rw [hn]; rfl
  have e7 : vS ys ys.length = val ys := rfl
  have e8 : vS (rip 0 n (n - ys.length) (addR us 0 ys ys.length).1 (addR us 0 ys ys.length).2) n = val (rip 0 n (n - ys.length) (addR us 0 ys ys.length).1 (addR us 0 ys ys.length).2) := vS_long (by omega)
  rw [e6, e7, e8] at h5
  have hnn := val_nn h2
  have hc : c' = 0 := by
    rcases Int.lt_or_le 0 c' with h | h
    · have : c' = 1 := by omega
      rw [this, Nat.zero_add] at h5
      omega
    · omega
  rw [hc] at h5
  omega
theorem val_snoc (xs : List Int) : val (xs ++ [0]) = val xs := by
  unfold val
  rw [List.length_append]
  show vS (xs ++ [0]) (xs.length + 1) = _
  simp only [vS]
  rw [lm_append_right (Nat.le_refl _)]
  have : vS (xs ++ [0]) xs.length = vS xs xs.length := vS_congr fun i hi => lm_append_left hi
  rw [this]
  simp [lm]
theorem addL_val {xs ys : List Int} (hx : AllW xs) (hy : AllW ys) : AllW (addL xs ys) ∧ val (addL xs ys) = val xs + val ys := by
  have bx := val_lt_tlen hx
  have by' := val_lt_tlen hy
  unfold addL
  split
  · rename_i h
    have hm := pw_mono (show tlen xs ≤ tlen ys by omega)
    have h0 := pw_pos (tlen ys)
    have := addF_val (us := trimL ys ++ [0]) (ys := trimL xs) (n := tlen ys + 1) (hy.trim.append (AllW.replicate 1)) hx.trim (by simp [length_trimL]) (by rw [length_trimL]; omega) (by rw [val_snoc, val_trimL, val_trimL, pw_succ]; omega)
    rw [val_snoc, val_trimL, val_trimL] at this
    exact ⟨this.1, by omega⟩
  · rename_i h
    have hm := pw_mono (show tlen ys ≤ tlen xs by omega)
    have h0 := pw_pos (tlen xs)
    have := addF_val (us := trimL xs ++ [0]) (ys := trimL ys) (n := tlen xs + 1) (hx.trim.append (AllW.replicate 1)) hy.trim (by simp [length_trimL]) (by rw [length_trimL]; omega) (by rw [val_snoc, val_trimL, val_trimL, pw_succ]; omega)
    rw [val_snoc, val_trimL, val_trimL] at this
    exact this
theorem length_addL (xs ys : List Int) : (addL xs ys).length ≤ xs.length + ys.length + 1 := by
  have h1 : tlen xs ≤ xs.length := tl_le _ _
  have h2 : tlen ys ≤ ys.length := tl_le _ _
  unfold addL
  split <;> rw [length_addF, List.length_append, length_trimL] <;> simp <;> omega

/-! ### differences -/
theorem bor_mul (x y T : Int) (hx : 0 ≤ x) (hx' : x < 18446744073709551616) (hy : 0 ≤ y) (hy' : y ≤ 18446744073709551616) : (x - y) % 18446744073709551616 * T - bor x y * (T * 18446744073709551616) = (x - y) * T := by
  unfold bor
  split
  · have h : (x - y) % 18446744073709551616 = x - y + 18446744073709551616 := by omega
    rw [h, Int.add_mul, Int.one_mul, Int.mul_comm T]; omega
  · have h : (x - y) % 18446744073709551616 = x - y := by omega
    rw [h]; omega
theorem subR_val {us ys : List Int} (hu : AllW us) (hy : AllW ys) (o : Nat) (k N : Nat) (h : o + k ≤ N) (hl : o + k ≤ us.length) : vS (subR us o ys k).1 N - (subR us o ys k).2 * pw (o + k) = vS us N - pw o * vS ys k := by
  induction k with
  | zero => simp [subR, vS]
  | succ k ih =>
    have ih := ih (by omega) (by omega)
    obtain ⟨h1, h2, h3, h4⟩ := subR_ok (us := us) (ys := ys) o hu k
    simp only [subR, vS]
    generalize (subR us o ys k).1 = U at *
    generalize (subR us o ys k).2 = C at *
    rw [vS_set _ (by omega) (by omega), show o + (k + 1) = (o + k) + 1 by omega, pw_succ, Int.mul_add]
    have a := h1.at (o + k)
    have b := hy.at k
    have e1 := bor_mul (lm U (o + k)) (lm ys k + C) (pw (o + k)) a.1 a.2 (by omega) (by omega)
    have e2 : pw o * (lm ys k * pw k) = lm ys k * pw (o + k) := by rw [pw_add, Int.mul_left_comm]
    rw [e2, Int.sub_mul]
    rw [show lm U (o + k) - (lm ys k + C) = lm U (o + k) - lm ys k - C by omega, Int.sub_mul, Int.sub_mul] at e1
    generalize (lm U (o + k) - lm ys k - C) % 18446744073709551616 * pw (o + k) = A at *
    generalize bor (lm U (o + k)) (lm ys k + C) * (pw (o + k) * 18446744073709551616) = D at *
    omega
theorem sip_val (o n N : Nat) : ∀ (f : Nat) (u : List Int) (c : Int), f ≤ n → AllW u → 0 ≤ c → c ≤ 1 → o + n ≤ N → o + n ≤ u.length → AllW (sip o n f u c).1 ∧ 0 ≤ (sip o n f u c).2 ∧ (sip o n f u c).2 ≤ 1 ∧ vS (sip o n f u c).1 N - (sip o n f u c).2 * pw (o + n) = vS u N - c * pw (o + (n - f))
  | 0, u, c, _, hu, h0, h1, _, _ => ⟨hu, h0, h1, by simp [sip]⟩
  | f + 1, u, c, hf, hu, h0, h1, hN, hl => by
    unfold sip
    split
    · have a := hu.at (o + (n - (f + 1)))
      have hb := bor_01 (lm u (o + (n - (f + 1)))) c
      obtain ⟨h2, h3, h4, h5⟩ := sip_val o n N f (u.set (o + (n - (f + 1))) ((lm u (o + (n - (f + 1))) - c) % 18446744073709551616)) (bor (lm u (o + (n - (f + 1)))) c) (by omega) (hu.set _ _ (word_mod _)) hb.1 hb.2 hN (by simpa using hl)
      refine ⟨h2, h3, h4, ?_⟩
      rw [h5, vS_set _ (by omega) (by omega), show o + (n - f) = (o + (n - (f + 1))) + 1 by omega, pw_succ]
      have e1 := bor_mul (lm u (o + (n - (f + 1)))) c (pw (o + (n - (f + 1)))) a.1 a.2 h0 (by omega)
      rw [Int.sub_mul] at e1
      rw [Int.sub_mul]
      omega
    · have : c = 0 := by omega
      subst this
      exact ⟨hu, h0, h1, by simp⟩
theorem subF_val {us ys : List Int} {n : Nat} (hu : AllW us) (hy : AllW ys) (hn : n = us.length) (hle : ys.length ≤ n) (hb : val ys ≤ val us) : (subF us 0 n ys).2 = 0 ∧ AllW (subF us 0 n ys).1 ∧ val (subF us 0 n ys).1 = val us - val ys := by
  obtain ⟨a1, a2, a3, a4⟩ := subR_ok (us := us) (ys := ys) 0 hu ys.length
  have e := subR_val hu hy 0 ys.length n (by omega) (by omega)
  have hlen : (subF us 0 n ys).1.length = n := by rw [length_subF, hn]
  obtain ⟨h2, h3, h4, h5⟩ := sip_val 0 n n (n - ys.length) (subR us 0 ys ys.length).1 (subR us 0 ys ys.length).2 (by omega) a1 a3 a4 (by omega) (by omega)
  have hF : sip 0 n (n - ys.length) (subR us 0 ys ys.length).1 (subR us 0 ys ys.length).2 = subF us 0 n ys := rfl
  rw [hF] at h2 h3 h4 h5
  rw [show 0 + (n - (n - ys.length)) = 0 + ys.length by omega, e, pw_zero] at h5
  have e6 : vS us n = val us := by rw [hn]; rfl
  have e7 : vS ys ys.length = val ys := rfl
  have e8 : vS (subF us 0 n ys).1 n = val (subF us 0 n ys).1 := vS_long (by omega)
  rw [e6, e7, e8] at h5
  have hlt := val_lt h2
  rw [hlen] at hlt
  have hc : (subF us 0 n ys).2 = 0 := by
    rcases Int.lt_or_le 0 (subF us 0 n ys).2 with h | h
    · have : (subF us 0 n ys).2 = 1 := by omega
      rw [this, Nat.zero_add] at h5
      omega
    · omega
  rw [hc] at h5
  exact ⟨hc, h2, by omega⟩
theorem subL_val {xs ys : List Int} (hx : AllW xs) (hy : AllW ys) (h : val ys ≤ val xs) : tlen ys ≤ tlen xs ∧ (subF (trimL xs) 0 (tlen xs) (trimL ys)).2 = 0 ∧ AllW (subL xs ys) ∧ val (subL xs ys) = val xs - val ys := by
  have hle := tlen_mono hy hx h
  have := subF_val (us := trimL xs) (ys := trimL ys) (n := tlen xs) hx.trim hy.trim (length_trimL xs).symm (by rw [length_trimL]; exact hle) (by rw [val_trimL, val_trimL]; exact h)
  rw [val_trimL, val_trimL] at this
  exact ⟨hle, this⟩
theorem length_subL (xs ys : List Int) : (subL xs ys).length = tlen xs := by unfold subL; rw [length_subF, length_trimL]

/-! ### products -/
theorem mulR_val {us ys : List Int} (o : Nat) (l : Int) (k N : Nat) (h : o + k ≤ N) (hl : o + k ≤ us.length) : (mulR us o ys l k).1.length = us.length ∧ vS (mulR us o ys l k).1 N + (mulR us o ys l k).2 * pw (o + k) = vS us N + pw o * (vS ys k * l) := by
  induction k with
  | zero => simp [mulR, vS]
  | succ k ih =>
    obtain ⟨hlen, ih⟩ := ih (by omega) (by omega)
    simp only [mulR, vS]
    generalize (mulR us o ys l k).1 = U at *
    generalize (mulR us o ys l k).2 = C at *
    refine ⟨by simp [hlen], ?_⟩
    rw [vS_set _ (by omega) (by omega), show o + (k + 1) = (o + k) + 1 by omega, pw_succ, Int.add_mul (vS ys k), Int.mul_add]
    have e1 := mod_mul (lm U (o + k) + lm ys k * l + C) (pw (o + k))
    have e2 : pw o * (lm ys k * pw k * l) = lm ys k * l * pw (o + k) := by
      rw [pw_add, Int.mul_right_comm (lm ys k), Int.mul_left_comm]
    rw [e2, Int.sub_mul]
    rw [Int.add_mul, Int.add_mul] at e1
    generalize (lm U (o + k) + lm ys k * l + C) % 18446744073709551616 * pw (o + k) = A at *
    generalize (lm U (o + k) + lm ys k * l + C) / 18446744073709551616 * (pw (o + k) * 18446744073709551616) = D at *
    omega
/-- Beyond what it looks at addTimes changes nothing. -/
theorem mulR_far {us ys : List Int} (o : Nat) (l : Int) (k i : Nat) (h : o + k ≤ i) : lm (mulR us o ys l k).1 i = lm us i := by
  induction k with
  | zero => rfl
  | succ k ih => simp only [mulR]; rw [lm_set, if_neg (by omega), ih (by omega)]
theorem mulO_val {xs ys : List Int} (hx : AllW xs) (hy : AllW ys) (N k : Nat) (h : k + ys.length ≤ N) : (∀ i, k + ys.length ≤ i → lm (mulO xs ys N k) i = 0) ∧ vS (mulO xs ys N k) N = vS xs k * val ys := by
  induction k with
  | zero =>
    refine ⟨fun i _ => by simp only [mulO]; rw [lm_replicate], ?_⟩
    simp only [mulO, vS, Int.zero_mul]
    have := vS_tail (us := List.replicate N 0) (m := 0) (n := N) (by omega) (fun i _ _ => lm_replicate N i)
    rw [this]; rfl
  | succ k ih =>
    obtain ⟨ih1, ih2⟩ := ih (by omega)
    obtain ⟨ok1, ok2⟩ := mulO_ok N hx hy k
    obtain ⟨hlen, hv⟩ := mulR_val (us := mulO xs ys N k) (ys := ys) k (lm xs k) ys.length N (by omega) (by omega)
    have hfar := mulR_far (us := mulO xs ys N k) (ys := ys) k (lm xs k) ys.length
    simp only [mulO, vS]
    generalize mulO xs ys N k = U at *
    generalize (mulR U k ys (lm xs k) ys.length).1 = V at *
    generalize (mulR U k ys (lm xs k) ys.length).2 = C at *
    constructor
    · intro i hi
      rw [lm_set, if_neg (by omega), hfar i (by omega), ih1 i (by omega)]
    · rw [vS_set _ (by omega) (by omega), hfar (k + ys.length) (Nat.le_refl _), ih1 (k + ys.length) (Nat.le_refl _), Int.add_mul]
      have e : pw k * (vS ys ys.length * lm xs k) = lm xs k * pw k * val ys := by
        show pw k * (val ys * lm xs k) = _
        rw [Int.mul_comm (val ys), ← Int.mul_assoc, Int.mul_comm (pw k)]
      rw [e, ih2] at hv
      rw [show C - 0 = C by omega]
      omega
theorem mulL_val {xs ys : List Int} (hx : AllW xs) (hy : AllW ys) : AllW (mulL xs ys) ∧ val (mulL xs ys) = val xs * val ys := by
  obtain ⟨h1, h2⟩ := mulO_ok (xs := trimL xs) (ys := trimL ys) (tlen xs + tlen ys) hx.trim hy.trim (tlen xs)
  refine ⟨h1, ?_⟩
  have := (mulO_val hx.trim hy.trim (tlen xs + tlen ys) (tlen xs) (by rw [length_trimL]; omega)).2
  have e1 : vS (trimL xs) (tlen xs) = val xs := by
    rw [← vS_trim xs]; exact vS_congr fun i hi => lm_trimL hi
  rw [e1, val_trimL] at this
  rw [← this]
  exact (vS_long (by show (mulO _ _ _ _).length ≤ _; omega)).symm
theorem length_mulL (xs ys : List Int) (hx : AllW xs) (hy : AllW ys) : (mulL xs ys).length = tlen xs + tlen ys := (mulO_ok (xs := trimL xs) (ys := trimL ys) (tlen xs + tlen ys) hx.trim hy.trim (tlen xs)).2
end Go.Proofs.YtfelogbfijomiaaDoor

namespace Go.Proofs.YtfelogbfijomiaaDoor
open Go.RowKit

/-- The slice tells the number x, in S limbs at the most. -/
def Num (w : World) (a : Option Addr) (n cap : Nat) (x : Int) (S : Nat) : Prop := ∃ xs, n = xs.length ∧ n ≤ cap ∧ Reads w a xs ∧ AllW xs ∧ val xs = x ∧ n ≤ S
theorem Num.below {w w' : World} {a : Option Addr} {n cap : Nat} {x : Int} {S : Nat} (h : Num w a n cap x S) (hb : Below w.heap.size w w') : Num w' a n cap x S := by
  obtain ⟨xs, h1, h2, h3, h4⟩ := h
  exact ⟨xs, h1, h2, h3.below hb, h4⟩
theorem Num.drewN {w : World} {a : Option Addr} {n cap : Nat} {x : Int} {S : Nat} (h : Num w a n cap x S) (m : Nat) : Num (w.drewN m) a n cap x S := by
  obtain ⟨xs, h1, h2, h3, h4⟩ := h
  exact ⟨xs, h1, h2, h3.drewN m, h4⟩
theorem Num.nil (w : World) : Num w none 0 0 0 0 := ⟨[], rfl, Nat.le_refl _, .inl rfl, AllW.nil, rfl, Nat.le_refl _⟩
theorem Num.nn {w : World} {a : Option Addr} {n cap : Nat} {x : Int} {S : Nat} (h : Num w a n cap x S) : 0 ≤ x := by
  obtain ⟨xs, _, _, _, h4, h5, _⟩ := h
  rw [← h5]; exact val_nn h4
theorem num_of_blk {w : World} {g : Nat} {us : List Int} (h : Blk w g us) (hu : AllW us) (cap : Nat) (hc : cap = us.length) {S : Nat} (hS : us.length ≤ S) : Num w (some ⟨g, 0, none⟩) (tlen us) cap (val us) S := by
  subst hc
  have hle : tlen us ≤ us.length := tl_le _ _
  exact ⟨trimL us, (length_trimL us).symm, hle, h.reads _, hu.trim, val_trimL us, by omega⟩

theorem addV {a b : Option Addr} {na nb ca cb : Nat} {x y : Int} {S R : Nat} (w : World) (ha : Num w a na ca x S) (hb : Num w b nb cb y R) (hS : S ≤ 1000000000000) (hR : R ≤ 1000000000000) :
    Calls Tryd.prog 46 #[.slice a na ca, .slice b nb cb] w fun e w' => ∃ c nc cc, e = .returned (.slice c nc cc) ∧ Num w' c nc cc (x + y) (S + R + 1) ∧ Below w.heap.size w w' := by
  obtain ⟨xs, a1, a2, a3, a4, a5, a6⟩ := ha
  obtain ⟨ys, b1, b2, b3, b4, b5, b6⟩ := hb
  refine (add_any a b na nb ca cb xs ys w a1 b1 a2 b2 (by omega) (by omega) a3 b3 a4 b4).mono ?_
  rintro e w' ⟨g, rfl, hg, hbk, hbel⟩
  obtain ⟨v1, v2⟩ := addL_val a4 b4
  have hl := length_addL xs ys
  refine ⟨_, _, _, rfl, ?_, hbel⟩
  rw [← a5, ← b5, ← v2]
  exact num_of_blk hbk v1 _ rfl (by omega)
theorem mulV {a b : Option Addr} {na nb ca cb : Nat} {x y : Int} {S R : Nat} (w : World) (ha : Num w a na ca x S) (hb : Num w b nb cb y R) (hS : S ≤ 400000000000) (hR : R ≤ 400000000000) :
    Calls Tryd.prog 49 #[.slice a na ca, .slice b nb cb] w fun e w' => ∃ c nc cc, e = .returned (.slice c nc cc) ∧ Num w' c nc cc (x * y) (S + R) ∧ Below w.heap.size w w' := by
  obtain ⟨xs, a1, a2, a3, a4, a5, a6⟩ := ha
  obtain ⟨ys, b1, b2, b3, b4, b5, b6⟩ := hb
  refine (mul_any a b na nb ca cb xs ys w a1 b1 a2 b2 (by omega) (by omega) a3 b3 a4 b4).mono ?_
  rintro e w' ⟨g, rfl, hg, hbk, hbel⟩
  obtain ⟨v1, v2⟩ := mulL_val a4 b4
  have hl := length_mulL xs ys a4 b4
  have t1 : tlen xs ≤ xs.length := tl_le _ _
  have t2 : tlen ys ≤ ys.length := tl_le _ _
  refine ⟨_, _, _, rfl, ?_, hbel⟩
  rw [← a5, ← b5, ← v2]
  exact num_of_blk hbk v1 _ rfl (by omega)
theorem ofV (v : Int) (w : World) (h0 : 0 ≤ v) (h1 : v < 18446744073709551616) :
    Calls Tryd.prog 50 #[.int .u64 v] w fun e w' => ∃ c nc cc, e = .returned (.slice c nc cc) ∧ Num w' c nc cc v 1 ∧ Below w.heap.size w w' := by
  refine (of_any v w h0 h1).mono ?_
  rintro e w' ⟨c, cc, rfl, hown, hbel⟩
  refine ⟨c, _, cc, rfl, ⟨trimL [v], (length_trimL _).symm, ?_, hown.reads, ?_, ?_, tl_le _ _⟩, hbel⟩
  · have := hown.le; rwa [length_trimL] at this
  · exact AllW.trim (fun x hx => by simp at hx; subst hx; exact ⟨h0, h1⟩)
  · rw [val_trimL]; simp [val, vS, lm, pw]
theorem bitsV0 {a : Option Addr} {na ca : Nat} {x : Int} {S : Nat} (w : World) (ha : Num w a na ca x S) (hS : S ≤ 1000000000000) (hx : x = 0) :
    Calls Tryd.prog 58 #[.slice a na ca] w fun e w' => e = .returned (.int .i64 0) ∧ w = w' := by
  obtain ⟨xs, a1, a2, a3, a4, a5, a6⟩ := ha
  have := bitsL_zero a4 (by omega)
  refine (bits_any a na ca xs w a1 a2 (by omega) a3 a4).mono ?_
  rintro e w' ⟨rfl, rfl⟩
  exact ⟨by rw [this], rfl⟩
theorem cmpV {a b : Option Addr} {na nb ca cb : Nat} {x y : Int} {S R : Nat} (w : World) (ha : Num w a na ca x S) (hb : Num w b nb cb y R) (hS : S ≤ 1000000000000) (hR : R ≤ 1000000000000) :
    Calls Tryd.prog 47 #[.slice a na ca, .slice b nb cb] w fun e w' => ∃ c : Int, e = .returned (.int .i64 c) ∧ ((c = 0 ∧ x = y) ∨ (c = -1 ∧ x < y) ∨ (c = 1 ∧ y < x)) ∧ ∃ m, w' = w.drewN m := by
  obtain ⟨xs, a1, a2, a3, a4, a5, a6⟩ := ha
  obtain ⟨ys, b1, b2, b3, b4, b5, b6⟩ := hb
  refine (cmp_any a b na nb ca cb xs ys w a1 b1 a2 b2 (by omega) (by omega) a3 b3).mono ?_
  rintro e w' ⟨rfl, m, rfl⟩
  refine ⟨_, rfl, ?_, m, rfl⟩
  have := cmpL_val a4 b4
  rw [a5, b5] at this
  exact this
end Go.Proofs.YtfelogbfijomiaaDoor

namespace Go.Proofs.YtfelogbfijomiaaDoor
open Go.RowKit

/-- A value that owns the words xs in memory from block B on. -/
def OwnV (w : World) (B : Nat) (v : Value) (xs : List Int) : Prop := w.ownsRow B 64 1 v xs.length (xs.map (Value.int .u64))
/-- Block g holds the words xs from its beginning on; the rest of it, up to cap, is whatever. -/
def Row (w : World) (g cap : Nat) (xs : List Int) : Prop :=
  ∃ cur : Array Value, w.heap[g]? = some (.cells cur 64 (0, 0)) ∧ xs.length ≤ cap ∧ cap ≤ maxLen ∧ cur.size = cap ∧ cur.toList.take xs.length = xs.map (Value.int .u64)
theorem OwnV.nil (w : World) (B : Nat) : OwnV w B (.slice none 0 0) [] := World.ownsRow_nil _ _ _ _
theorem OwnV.row {w : World} {B : Nat} {v : Value} {xs : List Int} (h : OwnV w B v xs) : (v = .slice none 0 0 ∧ xs = []) ∨ ∃ g cap, v = .slice (some ⟨g, 0, none⟩) xs.length cap ∧ B ≤ g ∧ Row w g cap xs := by
  rcases h.2 with ⟨h1, h2⟩ | ⟨g, cap, cur, h1, h2, h3, h4, h5, h6, h7⟩
  · exact .inl ⟨h1, List.eq_nil_of_length_eq_zero h2⟩
  · exact .inr ⟨g, cap, h1, h2, cur, h3, h4, h5, by omega, by simpa using h7⟩
theorem Row.own {w : World} {B g cap : Nat} {xs : List Int} (h : Row w g cap xs) (hB : B ≤ g) : OwnV w B (.slice (some ⟨g, 0, none⟩) xs.length cap) xs := by
  obtain ⟨cur, h1, h2, h3, h4, h5⟩ := h
  exact ⟨by simp, .inr ⟨g, cap, cur, rfl, hB, h1, h2, h3, by omega, by simpa using h5⟩⟩
theorem Blk.row {w : World} {g : Nat} {us : List Int} (h : Blk w g us) (n : Nat) (hm : us.length ≤ maxLen) : Row w g us.length (us.take n) :=
  ⟨_, h, by simp; omega, hm, by simp, by simp [List.map_take]⟩
theorem Row.lt {w : World} {g cap : Nat} {xs : List Int} (h : Row w g cap xs) : g < w.heap.size := by
  obtain ⟨cur, h1, _⟩ := h; exact (Array.getElem?_eq_some_iff.1 h1).1
theorem Row.le {w : World} {g cap : Nat} {xs : List Int} (h : Row w g cap xs) : xs.length ≤ cap := by
  obtain ⟨cur, _, h2, _⟩ := h; exact h2
theorem Row.cell {w : World} {g cap : Nat} {xs : List Int} (h : Row w g cap xs) {i : Nat} (hi : i < xs.length) : w.cell? ⟨g, i, none⟩ = some (.int .u64 (lm xs i)) := by
  obtain ⟨cur, h1, h2, h3, h4, h5⟩ := h
  have e : cur[i]? = some (.int .u64 (lm xs i)) := by
    have := congrArg (fun l => l[i]?) h5
    simp only [List.getElem?_take_of_lt hi, List.getElem?_map, lm_lt hi] at this
    simpa using this
  simp [World.cell?, h1, e]
theorem Row.frozen {w : World} {g cap : Nat} {xs : List Int} (h : Row w g cap xs) (i : Nat) : w.frozen? ⟨g, i, none⟩ = false := by
  obtain ⟨cur, h1, _⟩ := h
  simp [World.frozen?, h1]
theorem Row.set {w : World} {g cap : Nat} {xs : List Int} (h : Row w g cap xs) (i : Nat) (z : Int) : Row (w.setCell ⟨g, i, none⟩ (.int .u64 z)) g cap (xs.set i z) := by
  obtain ⟨cur, h1, h2, h3, h4, h5⟩ := h
  refine ⟨cur.setIfInBounds i (.int .u64 z), by simp [World.setCell, Array.getElem?_modify, h1], by simpa using h2, h3, by simpa using h4, ?_⟩
  simp [List.take_set, h5, List.map_set]
theorem Row.of_block {w w' : World} {g cap : Nat} {xs : List Int} (h : Row w g cap xs) (hb : w'.heap[g]? = w.heap[g]?) : Row w' g cap xs := by
  obtain ⟨cur, h1, h2⟩ := h
  exact ⟨cur, by rw [hb]; exact h1, h2⟩
theorem Row.below {w w' : World} {g cap B : Nat} {xs : List Int} (h : Row w g cap xs) (hb : Below B w w') (hg : g < B) : Row w' g cap xs := h.of_block (hb.block g hg)
theorem Row.belowAll {w w' : World} {g cap : Nat} {xs : List Int} (h : Row w g cap xs) (hb : Below w.heap.size w w') : Row w' g cap xs := h.below hb h.lt
theorem Row.off {w w' : World} {g cap k : Nat} {xs : List Int} (h : Row w g cap xs) (ho : Off k w w') (hg : g ≠ k) : Row w' g cap xs := h.of_block (ho.block g hg)
theorem Row.drewN {w : World} {g cap : Nat} {xs : List Int} (h : Row w g cap xs) (n : Nat) : Row (w.drewN n) g cap xs := h
theorem Row.take {w : World} {g cap : Nat} {xs : List Int} (h : Row w g cap xs) (n : Nat) : Row w g cap (xs.take n) := by
  obtain ⟨cur, h1, h2, h3, h4, h5⟩ := h
  refine ⟨cur, h1, by simp; omega, h3, h4, ?_⟩
  rw [List.map_take, ← h5, List.take_take, List.length_take]
theorem Row.reads {w : World} {g cap : Nat} {xs : List Int} (h : Row w g cap xs) : Reads w (some ⟨g, 0, none⟩) xs :=
  .inr ⟨g, 0, rfl, fun i hi => by rw [Nat.zero_add]; exact h.cell hi⟩
theorem OwnV.reads {w : World} {B : Nat} {a : Option Addr} {n cap : Nat} {xs : List Int} (h : OwnV w B (.slice a n cap) xs) : n = xs.length ∧ n ≤ cap ∧ Reads w a xs := by
  rcases h.row with ⟨h1, h2⟩ | ⟨g, c, h1, _, h3⟩
  · cases h1; subst h2; exact ⟨rfl, Nat.le_refl _, .inl rfl⟩
  · cases h1; exact ⟨rfl, h3.le, h3.reads⟩
theorem OwnV.slice {w : World} {B : Nat} {v : Value} {xs : List Int} (h : OwnV w B v xs) : ∃ a cap, v = .slice a xs.length cap := by
  rcases h.row with ⟨h1, h2⟩ | ⟨g, c, h1, _, _⟩
  · subst h2; exact ⟨none, 0, h1⟩
  · exact ⟨_, _, h1⟩
theorem OwnV.drew {w : World} {B : Nat} {v : Value} {xs : List Int} (h : OwnV w B v xs) : OwnV w.drew B v xs := h
theorem OwnV.below {w w' : World} {B : Nat} {v : Value} {xs : List Int} (h : OwnV w B v xs) (hb : Below w.heap.size w w') : OwnV w' B v xs := by
  rcases h.row with ⟨h1, h2⟩ | ⟨g, c, h1, h2, h3⟩
  · subst h1 h2; exact OwnV.nil _ _
  · subst h1; exact (h3.belowAll hb).own h2
theorem OwnV.mono {w : World} {B B' : Nat} {v : Value} {xs : List Int} (h : OwnV w B v xs) (hB : B' ≤ B) : OwnV w B' v xs := by
  rcases h.row with ⟨h1, h2⟩ | ⟨g, c, h1, h2, h3⟩
  · subst h1 h2; exact OwnV.nil _ _
  · subst h1; exact h3.own (by omega)

theorem own_form {w : World} {B : Nat} {v : Value} {xs : List Int} {n : Nat} (h : OwnV w B v xs) (hn : xs.length = n) : ∃ a cap, v = .slice a n cap := by
  subst hn; exact h.slice
theorem own_some {w : World} {B : Nat} {a : Option Addr} {n cap : Nat} {xs : List Int} (h : OwnV w B (.slice a n cap) xs) (hn : 0 < n) : ∃ g, a = some ⟨g, 0, none⟩ ∧ Row w g cap xs := by
  rcases h.row with ⟨e, _⟩ | ⟨g, cap', e, _, hr⟩
  · simp only [Value.slice.injEq] at e; omega
  · simp only [Value.slice.injEq] at e
    obtain ⟨rfl, _, rfl⟩ := e
    exact ⟨g, rfl, hr⟩
theorem grown_below {B : Nat} {w w' : World} {row : Option Nat} (hg : w.grownBy w' row) (hB : B ≤ w.heap.size) (hr : ∀ k, row = some k → B ≤ k) : Below B w w' := (Below.refl _ _).grown hg hB hr
theorem OwnV.alloc {w : World} {B : Nat} {v : Value} {xs : List Int} (h : OwnV w B v xs) (o : Obj) : OwnV (w.alloc o) B v xs := World.ownsRow.alloc h o
theorem OwnV.lt {w : World} {B : Nat} {v : Value} {xs : List Int} (h : OwnV w B v xs) : ∀ k, v.ownBlock = some k → B ≤ k ∧ k < w.heap.size := World.ownsRow.lt h
theorem cell_new1 {w : World} {h : Nat} {v : Value} {t : TypeId} (hh : h = w.heap.size) : (w.alloc (.cells #[v] t)).cell? ⟨h, 0, none⟩ = some v := by subst hh; simp
theorem take_snoc_lm (xs : List Int) (k : Nat) (h : k < xs.length) : xs.take k ++ [lm xs k] = xs.take (k + 1) := by
  rw [List.take_succ_eq_append_getElem h]
  simp [lm, List.getElem?_eq_getElem h]
/-- 'append(v, z)' at a plain region: z lies in a block of its own already. -/
theorem wpList_append1 (t : TypeId) (ht : Tryd.prog.underlying t = some (.slice 64)) (w : World) {ops : Array Oper} {rest : List Oper} {o : Oper} {a : Act} {Q : Exit → Act → World → Prop} (hgd : o.guard = none) (s x : Operand)
    (ho : o.op = .call { callee := .builtin .append, args := #[s, x], argTypes := #[t, t] }) (B : Nat) (v : Value) (xs : List Int) (n : Nat) (hn : Hid (xs.length = n)) (hs : a.eval s = v) (hown : OwnV w B v xs) (h : Nat) (c : Nat) (z : Int) (hx : a.eval x = .slice (some ⟨h, 0, none⟩) 1 c)
    (hc : w.cell? ⟨h, 0, none⟩ = some (.int .u64 z)) (hlen : n ≤ 1000000000000) (hB : B ≤ w.heap.size) (H : Nat) (hH : w.heap.size = H)
    (hK : ∀ g cap w', OwnV w' B (.slice (some ⟨g, 0, none⟩) (n + 1) cap) (xs ++ [z]) → w.grownBy w' v.ownBlock → (v.ownBlock = some g ∨ g = H) → g < w'.heap.size → wpList Tryd.prog ops Q rest (a.put o.dst (.slice (some ⟨g, 0, none⟩) (n + 1) cap)) w') :
    wpList Tryd.prog ops Q (o :: rest) a w := by
  obtain rfl := hn.out
  obtain ⟨i0, hi, hz0, hz1, hz2⟩ := info_parts Tryd.infoU64
  refine wpList_append_lies w hgd s x t ho B 64 i0 (.int .u64 0) 1 8 ht hi hz0 hz1 hz2 rfl (by decide) v xs.length (xs.map (Value.int .u64)) hs hown ⟨h, 0, none⟩ 1 c [.int .u64 z] hx rfl ?_ (fun u hu => by simp at hu; subst hu; rfl) (by decide) (by unfold maxLen; omega) (by omega) hB H hH ?_
  · intro j u hj
    match j, hj with
    | 0, hj => simp at hj; subst hj; simpa [Addr.add] using hc
  · intro g cap w' h1 h2 h3 h4
    refine hK g cap w' ?_ h2 h3 h4
    unfold OwnV
    simpa using h1
/-- 'append(v, y, z)' likewise. -/
theorem wpList_append2 (t : TypeId) (ht : Tryd.prog.underlying t = some (.slice 64)) (w : World) {ops : Array Oper} {rest : List Oper} {o : Oper} {a : Act} {Q : Exit → Act → World → Prop} (hgd : o.guard = none) (s x : Operand)
    (ho : o.op = .call { callee := .builtin .append, args := #[s, x], argTypes := #[t, t] }) (B : Nat) (v : Value) (xs : List Int) (n : Nat) (hn : Hid (xs.length = n)) (hs : a.eval s = v) (hown : OwnV w B v xs) (h : Nat) (c : Nat) (y z : Int) (hx : a.eval x = .slice (some ⟨h, 0, none⟩) 2 c)
    (hc0 : w.cell? ⟨h, 0, none⟩ = some (.int .u64 y)) (hc : w.cell? ⟨h, 1, none⟩ = some (.int .u64 z)) (hlen : n ≤ 1000000000000) (hB : B ≤ w.heap.size) (H : Nat) (hH : w.heap.size = H)
    (hK : ∀ g cap w', OwnV w' B (.slice (some ⟨g, 0, none⟩) (n + 2) cap) (xs ++ [y, z]) → w.grownBy w' v.ownBlock → (v.ownBlock = some g ∨ g = H) → g < w'.heap.size → wpList Tryd.prog ops Q rest (a.put o.dst (.slice (some ⟨g, 0, none⟩) (n + 2) cap)) w') :
    wpList Tryd.prog ops Q (o :: rest) a w := by
  obtain rfl := hn.out
  obtain ⟨i0, hi, hz0, hz1, hz2⟩ := info_parts Tryd.infoU64
  refine wpList_append_lies w hgd s x t ho B 64 i0 (.int .u64 0) 1 8 ht hi hz0 hz1 hz2 rfl (by decide) v xs.length (xs.map (Value.int .u64)) hs hown ⟨h, 0, none⟩ 2 c [.int .u64 y, .int .u64 z] hx rfl ?_ (fun u hu => by simp at hu; rcases hu with rfl | rfl <;> rfl) (by decide) (by unfold maxLen; omega) (by omega) hB H hH ?_
  · intro j u hj
    match j, hj with
    | 0, hj => simp at hj; subst hj; simpa [Addr.add] using hc0
    | 1, hj => simp at hj; subst hj; simpa [Addr.add] using hc
  · intro g cap w' h1 h2 h3 h4
    refine hK g cap w' ?_ h2 h3 h4
    unfold OwnV
    simpa using h1
/-- 'append(v, y, z)' at a step of a region that draws its order. -/
theorem step_append2 (t : TypeId) (ht : Tryd.prog.underlying t = some (.slice 64)) (w : World) {ops : Array Oper} {o : Oper} {a : Act} {K : Act → World → Prop} {Q : Exit → Act → World → Prop} {E : Prop} (hgd : o.guard = none) (s x : Operand)
    (ho : o.op = .call { callee := .builtin .append, args := #[s, x], argTypes := #[t, t] }) (B : Nat) (v : Value) (xs : List Int) (n : Nat) (hn : Hid (xs.length = n)) (hs : a.eval s = v) (hown : OwnV w B v xs) (h : Nat) (c : Nat) (y z : Int) (hx : a.eval x = .slice (some ⟨h, 0, none⟩) 2 c)
    (hc0 : w.cell? ⟨h, 0, none⟩ = some (.int .u64 y)) (hc : w.cell? ⟨h, 1, none⟩ = some (.int .u64 z)) (hlen : n ≤ 1000000000000) (hB : B ≤ w.heap.size) (H : Nat) (hH : w.heap.size = H)
    (hK : ∀ g cap w', OwnV w' B (.slice (some ⟨g, 0, none⟩) (n + 2) cap) (xs ++ [y, z]) → w.grownBy w' v.ownBlock → (v.ownBlock = some g ∨ g = H) → g < w'.heap.size → K (a.put o.dst (.slice (some ⟨g, 0, none⟩) (n + 2) cap)) w') :
    if Region.wanted o (yielded ops a.tmps) = true then Oper.wp Tryd.prog o a w K Q else E := by
  obtain rfl := hn.out
  obtain ⟨i0, hi, hz0, hz1, hz2⟩ := info_parts Tryd.infoU64
  refine step_append_lies w hgd s x t ho B 64 i0 (.int .u64 0) 1 8 ht hi hz0 hz1 hz2 rfl (by decide) v xs.length (xs.map (Value.int .u64)) hs hown ⟨h, 0, none⟩ 2 c [.int .u64 y, .int .u64 z] hx rfl ?_ (fun u hu => by simp at hu; rcases hu with rfl | rfl <;> rfl) (by decide) (by unfold maxLen; omega) (by omega) hB H hH ?_
  · intro j u hj
    match j, hj with
    | 0, hj => simp at hj; subst hj; simpa [Addr.add] using hc0
    | 1, hj => simp at hj; subst hj; simpa [Addr.add] using hc
  · intro g cap w' h1 h2 h3 h4
    refine hK g cap w' ?_ h2 h3 h4
    unfold OwnV
    simpa using h1
end Go.Proofs.YtfelogbfijomiaaDoor

namespace Go.Proofs.YtfelogbfijomiaaDoor
open Go.RowKit

/-- In the one form: no nought at the end. -/
def NF (xs : List Int) : Prop := AllW xs ∧ tlen xs = xs.length
theorem NF.trimL {xs : List Int} (h : AllW xs) : NF (trimL xs) := ⟨h.trim, by rw [tlen_trimL, length_trimL]⟩
theorem NF.nil : NF [] := ⟨AllW.nil, rfl⟩
theorem nf_unique {xs ys : List Int} (hx : NF xs) (hy : NF ys) (h : val xs = val ys) : xs = ys := by
  have h1 := tlen_mono hx.1 hy.1 (by omega)
  have h2 := tlen_mono hy.1 hx.1 (by omega)
  have hl : xs.length = ys.length := by have := hx.2; have := hy.2; omega
  have hc := cmpL_zero hx.1 hy.1 h
  unfold cmpL at hc
  rw [if_pos (by omega)] at hc
  have key : ∀ k, cmpTo xs ys k = 0 → ∀ i, i < k → lm xs i = lm ys i := by
    intro k
    induction k with
    | zero => intro _ i hi; omega
    | succ k ih =>
      intro hk i hi
      by_cases e : lm xs k = lm ys k
      · rw [cmpTo_eq e] at hk
        rcases Nat.lt_or_ge i k with h3 | h3
        · exact ih hk i h3
        · obtain rfl : i = k := by omega
          exact e
      · rw [cmpTo_ne e] at hk
        unfold ordI at hk
        split at hk <;> omega
  apply List.ext_getElem hl
  intro i h3 h4
  have := key (tlen xs) hc i (by rw [hx.2]; exact h3)
  have e1 := lm_lt h3
  have e2 := lm_lt h4
  rw [List.getElem?_eq_getElem h3] at e1
  rw [List.getElem?_eq_getElem h4] at e2
  rw [this] at e1
  rw [Option.some.injEq] at e1 e2
  rw [e1, e2]

/-- The slice tells the number x in the one form, S limbs at the most, in memory of its own from block B on. -/
def Got (w : World) (B : Nat) (v : Value) (x : Int) (S : Nat) : Prop := ∃ xs, OwnV w B v xs ∧ NF xs ∧ val xs = x ∧ xs.length ≤ S
theorem Got.below {w w' : World} {B : Nat} {v : Value} {x : Int} {S : Nat} (h : Got w B v x S) (hb : Below w.heap.size w w') : Got w' B v x S := by
  obtain ⟨xs, h1, h2⟩ := h; exact ⟨xs, h1.below hb, h2⟩
theorem Got.mono {w : World} {B B' : Nat} {v : Value} {x : Int} {S : Nat} (h : Got w B v x S) (hB : B' ≤ B) : Got w B' v x S := by
  obtain ⟨xs, h1, h2⟩ := h; exact ⟨xs, h1.mono hB, h2⟩
theorem Got.le {w : World} {B : Nat} {v : Value} {x : Int} {S S' : Nat} (h : Got w B v x S) (hS : S ≤ S') : Got w B v x S' := by
  obtain ⟨xs, h1, h2, h3, h4⟩ := h; exact ⟨xs, h1, h2, h3, by omega⟩
theorem Got.nil (w : World) (B : Nat) : Got w B (.slice none 0 0) 0 0 := ⟨[], OwnV.nil _ _, NF.nil, rfl, Nat.le_refl _⟩
theorem Got.form {w : World} {B : Nat} {v : Value} {x : Int} {S : Nat} (h : Got w B v x S) : ∃ a n cap, v = .slice a n cap := by
  obtain ⟨xs, h1, _⟩ := h; obtain ⟨a, cap, e⟩ := h1.slice; exact ⟨a, _, cap, e⟩
theorem Got.num {w : World} {B : Nat} {a : Option Addr} {n cap : Nat} {x : Int} {S : Nat} (h : Got w B (.slice a n cap) x S) : Num w a n cap x S := by
  obtain ⟨xs, h1, h2, h3, h4⟩ := h
  obtain ⟨r1, r2, r3⟩ := h1.reads
  exact ⟨xs, r1, r2, r3, h2.1, h3, by omega⟩
theorem Got.lt {w : World} {B : Nat} {v : Value} {x : Int} {S : Nat} (h : Got w B v x S) : ∀ k, v.ownBlock = some k → B ≤ k ∧ k < w.heap.size := by
  obtain ⟨xs, h1, _⟩ := h; exact h1.lt
theorem got_of_blk {w : World} {g B : Nat} {us : List Int} (h : Blk w g us) (hu : AllW us) (hB : B ≤ g) (cap : Nat) (hc : cap = us.length) {S : Nat} (hS : us.length ≤ S) (hm : us.length ≤ 1000000000000) : Got w B (.slice (some ⟨g, 0, none⟩) (tlen us) cap) (val us) S := by
  subst hc
  have hle : tlen us ≤ us.length := tl_le _ _
  have h1 := h.row (tlen us) (by unfold maxLen; omega)
  have h2 := h1.own hB
  have e : (us.take (tlen us)).length = tlen us := by rw [List.length_take]; omega
  rw [e] at h2
  exact ⟨trimL us, h2, NF.trimL hu, val_trimL us, by rw [length_trimL]; omega⟩
theorem got_eq {w w' : World} {B B' : Nat} {v u : Value} {x y : Int} {S R : Nat} (h : Got w B v x S) (k : Got w' B' u y R) (e : x = y) : ∃ xs, OwnV w B v xs ∧ OwnV w' B' u xs ∧ xs.length ≤ S := by
  obtain ⟨xs, h1, h2, h3, h4⟩ := h
  obtain ⟨ys, k1, k2, k3, k4⟩ := k
  obtain rfl := nf_unique h2 k2 (by omega)
  exact ⟨xs, h1, k1, h4⟩
end Go.Proofs.YtfelogbfijomiaaDoor

namespace Go.Proofs.YtfelogbfijomiaaDoor
open Go.RowKit

theorem addG {a b : Option Addr} {na nb ca cb : Nat} {x y : Int} {S R : Nat} (w : World) (ha : Num w a na ca x S) (hb : Num w b nb cb y R) (hS : S ≤ 100000000000) (hR : R ≤ 100000000000) :
    Calls Tryd.prog 46 #[.slice a na ca, .slice b nb cb] w fun e w' => ∃ c nc cc, e = .returned (.slice c nc cc) ∧ Got w' w.heap.size (.slice c nc cc) (x + y) (S + R + 1) ∧ Below w.heap.size w w' := by
  obtain ⟨xs, a1, a2, a3, a4, a5, a6⟩ := ha
  obtain ⟨ys, b1, b2, b3, b4, b5, b6⟩ := hb
  refine (add_any a b na nb ca cb xs ys w a1 b1 a2 b2 (by omega) (by omega) a3 b3 a4 b4).mono ?_
  rintro e w' ⟨g, rfl, hg, hbk, hbel⟩
  obtain ⟨v1, v2⟩ := addL_val a4 b4
  have hl := length_addL xs ys
  refine ⟨_, _, _, rfl, ?_, hbel⟩
  rw [← a5, ← b5, ← v2]
  exact got_of_blk hbk v1 hg _ rfl (by omega) (by omega)
theorem mulG {a b : Option Addr} {na nb ca cb : Nat} {x y : Int} {S R : Nat} (w : World) (ha : Num w a na ca x S) (hb : Num w b nb cb y R) (hS : S ≤ 100000000000) (hR : R ≤ 100000000000) :
    Calls Tryd.prog 49 #[.slice a na ca, .slice b nb cb] w fun e w' => ∃ c nc cc, e = .returned (.slice c nc cc) ∧ Got w' w.heap.size (.slice c nc cc) (x * y) (S + R) ∧ Below w.heap.size w w' := by
  obtain ⟨xs, a1, a2, a3, a4, a5, a6⟩ := ha
  obtain ⟨ys, b1, b2, b3, b4, b5, b6⟩ := hb
  refine (mul_any a b na nb ca cb xs ys w a1 b1 a2 b2 (by omega) (by omega) a3 b3 a4 b4).mono ?_
  rintro e w' ⟨g, rfl, hg, hbk, hbel⟩
  obtain ⟨v1, v2⟩ := mulL_val a4 b4
  have hl := length_mulL xs ys a4 b4
  have t1 : tlen xs ≤ xs.length := tl_le _ _
  have t2 : tlen ys ≤ ys.length := tl_le _ _
  refine ⟨_, _, _, rfl, ?_, hbel⟩
  rw [← a5, ← b5, ← v2]
  exact got_of_blk hbk v1 hg _ rfl (by omega) (by omega)
theorem Got.shrink {w : World} {B : Nat} {v : Value} {x : Int} {S m : Nat} (h : Got w B v x S) (hx : x < pw m) : Got w B v x m := by
  obtain ⟨xs, h1, h2, h3, h4⟩ := h
  refine ⟨xs, h1, h2, h3, ?_⟩
  rcases Nat.lt_or_ge m xs.length with h5 | h5
  · have h6 := val_ge h2.1 (by rw [h2.2]; omega)
    have h7 := pw_mono (a := m) (b := tlen xs - 1) (by rw [h2.2]; omega)
    omega
  · exact h5
theorem Got.val {w : World} {B : Nat} {v : Value} {x y : Int} {S : Nat} (h : Got w B v x S) (e : x = y) : Got w B v y S := e ▸ h
set_option maxHeartbeats 400000 in
theorem ofG (v : Int) (w : World) (h0 : 0 ≤ v) (h1 : v < 18446744073709551616) :
    Calls Tryd.prog 50 #[.int .u64 v] w fun e w' => ∃ a n cap, e = .returned (.slice a n cap) ∧ Got w' w.heap.size (.slice a n cap) v 1 ∧ Below w.heap.size w w' := by
  have hw : AllW [v] := fun x hx => by simp at hx; subst hx; exact ⟨h0, h1⟩
  have ev : Go.Proofs.YtfelogbfijomiaaDoor.val [v] = v := by simp [Go.Proofs.YtfelogbfijomiaaDoor.val, vS, lm, pw]
  by_cases hv : v = 0
  · subst hv
    go_enter Tryd.func50, Tryd.ntmps50
    go_wp2
    go_ret
    exact ⟨none, 0, 0, rfl, (Got.nil _ _).le (by omega), Below.refl _ _⟩
  · have t1 : (v == 0) = false := by simpa using hv
    go_enter Tryd.func50, Tryd.ntmps50
    go_wp2
    go_ret
    have e1 : tlen [v] = 1 := by simp [tlen, tl, lm, hv]
    have hbk : Blk (w.alloc (Obj.cells #[Value.int IntKind.u64 v] 64)) w.heap.size [v] := blk_new [v]
    have G := got_of_blk hbk hw (Nat.le_refl _) 1 rfl (S := 1) (by simp) (by simp)
    rw [e1, ev] at G
    exact ⟨some ⟨w.heap.size, 0, none⟩, 1, 1, rfl, G, (Below.refl _ _).alloc (Nat.le_refl _) _⟩
end Go.Proofs.YtfelogbfijomiaaDoor

namespace Go.Proofs.YtfelogbfijomiaaDoor
open Go.RowKit

set_option maxHeartbeats 1000000 in
theorem sub_any (a b : Option Addr) (na nb ca cb : Nat) (xs ys : List Int) (w : World) (hna : na = xs.length) (hnb : nb = ys.length) (hla : na ≤ ca) (hlb : nb ≤ cb)
    (hma : na ≤ 1000000000000) (hmb : nb ≤ 1000000000000) (hra : Reads w a xs) (hrb : Reads w b ys) (hx : AllW xs) (hy : AllW ys) (hc : 0 ≤ cmpL xs ys) (hle : tlen ys ≤ tlen xs) (hlast : (subF (trimL xs) 0 (tlen xs) (trimL ys)).2 = 0) :
    Calls Tryd.prog 48 #[.slice a na ca, .slice b nb cb] w fun e w' => ∃ g, e = .returned (.tuple #[.slice (some ⟨g, 0, none⟩) (tlen (subL xs ys)) (tlen xs), .nilIface]) ∧ w.heap.size ≤ g ∧ Blk w' g (subL xs ys) ∧ Below w.heap.size w w' := by
  have ta : tlen xs ≤ xs.length := tl_le _ _
  have tb : tlen ys ≤ ys.length := tl_le _ _
  subst hna hnb
  have HLAST : Hid ((subF (trimL xs) 0 (tlen xs) (trimL ys)).2 = 0) := hlast
  clear hlast
  go_enter Tryd.func48, Tryd.ntmps48
  go_wp2_with fail
  refine (cmp_any a b _ _ ca cb xs ys _ rfl rfl hla hlb (by omega) (by omega) hra hrb).mono ?_
  rintro e w1 ⟨rfl, m, rfl⟩
  go_wp2_with fail
  refine (norm_any a _ ca xs _ rfl hla (by omega) (hra.drewN m)).mono ?_
  rintro e w1 ⟨g, rfl, hg, hb1, hbel1⟩
  have hbel : Below w.heap.size w w1 := (belN (Below.refl _ w) m).trans hbel1
  have hg' : w.heap.size ≤ g := hg
  clear hg hbel1
  go_wp2_with fail
  refine (trim_any b _ cb ys _ rfl hlb (by omega) (hrb.below hbel)).mono ?_
  rintro e w2 ⟨rfl, rfl⟩
  go_wp2_with fail
  refine (takeFrom_any g 0 (tlen xs) _ (trimL xs) b (tlen ys) cb (trimL ys) w1 hb1 (by rw [length_trimL]; omega) (by rw [length_trimL]; omega) (hx.take _) (length_trimL ys).symm hle ((hrb.below hbel).take _) (fun hne p hp => ?haw) (hy.take _) HLAST.out).mono ?_
  case haw => have := (hrb.take (tlen ys)).lt hne p hp; omega
  rintro e w3 ⟨rfl, hb3, hoff⟩
  have hbel3 : Below w.heap.size w w3 := hbel.trans (hoff.below hg')
  have HL : Hid ((subL xs ys).length = tlen xs) := by show _ = _; unfold subL; rw [length_subF, length_trimL]
  have hb4 : Blk w3 g (subL xs ys) := hb3
  clear hb3 hoff hb1 hbel
  go_wp2_with fail
  refine (trim_any (some ⟨g, 0, none⟩) (tlen xs) (tlen xs) (subL xs ys) w3 HL.out.symm (Nat.le_refl _) (by omega) hb4.reads').mono ?_
  rintro e w4 ⟨rfl, rfl⟩
  go_wp2
  go_ret2
  exact ⟨g, rfl, hg', hb4, hbel3⟩
theorem subV {a b : Option Addr} {na nb ca cb : Nat} {x y : Int} {S R : Nat} (w : World) (ha : Num w a na ca x S) (hb : Num w b nb cb y R) (hS : S ≤ 1000000000000) (hR : R ≤ 1000000000000) (hxy : y ≤ x) :
    Calls Tryd.prog 48 #[.slice a na ca, .slice b nb cb] w fun e w' => ∃ c nc cc, e = .returned (.tuple #[.slice c nc cc, .nilIface]) ∧ Num w' c nc cc (x - y) S ∧ Below w.heap.size w w' := by
  obtain ⟨xs, a1, a2, a3, a4, a5, a6⟩ := ha
  obtain ⟨ys, b1, b2, b3, b4, b5, b6⟩ := hb
  obtain ⟨s1, s2, s3, s4⟩ := subL_val a4 b4 (by omega)
  have hc : 0 ≤ cmpL xs ys := by rcases cmpL_val a4 b4 with h | h | h <;> omega
  refine (sub_any a b na nb ca cb xs ys w a1 b1 a2 b2 (by omega) (by omega) a3 b3 a4 b4 hc s1 s2).mono ?_
  rintro e w' ⟨g, rfl, hg, hbk, hbel⟩
  have t1 : tlen xs ≤ xs.length := tl_le _ _
  refine ⟨_, _, _, rfl, ?_, hbel⟩
  rw [← a5, ← b5, ← s4]
  exact num_of_blk hbk s3 _ (length_subL xs ys).symm (by rw [length_subL]; omega)
end Go.Proofs.YtfelogbfijomiaaDoor

namespace Go.Proofs.YtfelogbfijomiaaDoor
open Go.RowKit

/-- An error that stands in a package's variable. -/
def Errs (w : World) (g : Nat) (v : Value) : Prop := w.cell? ⟨g, 0, none⟩ = some v ∧ ∃ p, v = .iface 125 (.pointer (some p))
theorem Errs.below {w w' : World} {g : Nat} {v : Value} (h : Errs w g v) (hb : Below w.heap.size w w') : Errs w' g v := ⟨by rw [hb.cell (World.block_lt_of_cell? _ _ h.1)]; exact h.1, h.2⟩
end Go.Proofs.YtfelogbfijomiaaDoor

namespace Go.Proofs.YtfelogbfijomiaaDoor
open Go.RowKit

theorem subG {a b : Option Addr} {na nb ca cb : Nat} {x y : Int} {S R : Nat} (w : World) (ha : Num w a na ca x S) (hb : Num w b nb cb y R) (hS : S ≤ 100000000000) (hR : R ≤ 100000000000) (hxy : y ≤ x) :
    Calls Tryd.prog 48 #[.slice a na ca, .slice b nb cb] w fun e w' => ∃ c nc cc, e = .returned (.tuple #[.slice c nc cc, .nilIface]) ∧ Got w' w.heap.size (.slice c nc cc) (x - y) S ∧ Below w.heap.size w w' := by
  obtain ⟨xs, a1, a2, a3, a4, a5, a6⟩ := ha
  obtain ⟨ys, b1, b2, b3, b4, b5, b6⟩ := hb
  obtain ⟨s1, s2, s3, s4⟩ := subL_val a4 b4 (by omega)
  have hc : 0 ≤ cmpL xs ys := by rcases cmpL_val a4 b4 with h | h | h <;> omega
  refine (sub_any a b na nb ca cb xs ys w a1 b1 a2 b2 (by omega) (by omega) a3 b3 a4 b4 hc s1 s2).mono ?_
  rintro e w' ⟨g, rfl, hg, hbk, hbel⟩
  have t1 : tlen xs ≤ xs.length := tl_le _ _
  have hl := length_subL xs ys
  refine ⟨_, _, _, rfl, ?_, hbel⟩
  rw [← a5, ← b5, ← s4]
  exact got_of_blk hbk s3 hg _ hl.symm (by omega) (by omega)
set_option maxHeartbeats 400000 in
theorem subE {a b : Option Addr} {na nb ca cb : Nat} {x y : Int} {S R : Nat} {ev : Value} (w : World) (ha : Num w a na ca x S) (hb : Num w b nb cb y R) (hS : S ≤ 100000000000) (hR : R ≤ 100000000000) (hxy : x < y) (hE : Errs w 1 ev) :
    Calls Tryd.prog 48 #[.slice a na ca, .slice b nb cb] w fun e w' => e = .returned (.tuple #[.slice none 0 0, ev]) ∧ Below w.heap.size w w' := by
  obtain ⟨hE, _⟩ := hE
  have HXY : Hid (x < y) := hxy
  clear hxy
  go_enter Tryd.func48, Tryd.ntmps48
  go_wp2_with fail
  refine (cmpV _ ha hb (by omega) (by omega)).mono ?_
  rintro e w1 ⟨c, rfl, hc, m, hm⟩
  obtain rfl : c = -1 := by have := HXY.out; omega
  have hb1 : Below w.heap.size w w1 := by rw [hm]; exact belN (Below.refl _ _) m
  have hE1 : w1.cell? ⟨1, 0, none⟩ = some ev := by rw [hb1.cell (World.block_lt_of_cell? _ _ hE)]; exact hE
  clear hc ha hb hm hE
  go_wp2
  go_quiet (fail)
  go_wp2
  go_ret2
  exact ⟨rfl, belN hb1 nq⟩
end Go.Proofs.YtfelogbfijomiaaDoor

namespace Go.Proofs.YtfelogbfijomiaaDoor
open Go.RowKit

/-- The whole number of a sign and how far it is from nought. -/
def ws (b : Bool) (m : Int) : Int := if b then -m else m
set_option maxHeartbeats 1000000 in
theorem signed_any (b : Bool) (a : Option Addr) (n c : Nat) (w : World) :
    Calls Tryd.prog 45 #[.bool b, .slice a n c] w fun e w' => e = .returned (.agg #[.bool (b && decide (0 < n)), .slice a n c]) ∧ Below w.heap.size w w' := by
  cases b with
  | false =>
    go_enter Tryd.func45, Tryd.ntmps45
    go_wp2
    refine bodyPost_ret (v := .agg #[.bool false, .slice a n c]) (by simp [results, Tryd.results45, go_sem]) rfl ⟨rfl, (Below.refl _ _).alloc (Nat.le_refl _) _⟩
  | true =>
    go_enter Tryd.func45, Tryd.ntmps45
    go_wp2
    refine bodyPost_ret (v := .agg #[.bool (decide (0 < n)), .slice a n c]) (by simp [results, Tryd.results45, go_sem]) rfl ⟨rfl, (Below.refl _ _).alloc (Nat.le_refl _) _⟩

theorem ws_lt {b : Bool} {m : Int} (hm : 0 ≤ m) : (b && decide (0 < m)) = decide (ws b m < 0) := by
  unfold ws
  cases b with
  | false => simp; omega
  | true => simp
theorem ws_abs {b : Bool} {m : Int} (hm : 0 ≤ m) : ((ws b m).natAbs : Int) = m := by unfold ws; cases b <;> simp <;> omega
theorem ws_not (b : Bool) (m : Int) : ws (!b) m = -ws b m := by unfold ws; cases b <;> simp
theorem ws_zero (b : Bool) : ws b 0 = 0 := by unfold ws; cases b <;> simp
theorem ws_mul (b c : Bool) (m k : Int) : ws b m * ws c k = ws (b != c) (m * k) := by unfold ws; cases b <;> cases c <;> simp [Int.neg_mul, Int.mul_neg]
theorem ws_sign (x : Int) : ws (decide (x < 0)) (x.natAbs : Int) = x := by unfold ws; by_cases h : x < 0 <;> simp [h] <;> omega
theorem Got.pos {w : World} {B : Nat} {a : Option Addr} {n c : Nat} {m : Int} {S : Nat} (h : Got w B (.slice a n c) m S) : 0 ≤ m ∧ (0 < n ↔ 0 < m) := by
  obtain ⟨xs, h1, h2, h3, h4⟩ := h
  obtain ⟨r1, r2, r3⟩ := h1.reads
  have h0 := val_nn h2.1
  have hz := tlen_zero h2.1
  rw [h2.2] at hz
  omega

/-- A whole number's value that tells x in the one form, in memory of its own from block B on. -/
def GI (w : World) (B : Nat) (v : Value) (x : Int) (S : Nat) : Prop := ∃ a n c, v = .agg #[.bool (decide (x < 0)), .slice a n c] ∧ Got w B (.slice a n c) (x.natAbs : Int) S
/-- A whole number's value that tells x, in whatever way. -/
def NI (w : World) (v : Value) (x : Int) (S : Nat) : Prop := ∃ b a n c m, v = .agg #[.bool b, .slice a n c] ∧ Num w a n c m S ∧ x = ws b m
theorem GI.below {w w' : World} {B : Nat} {v : Value} {x : Int} {S : Nat} (h : GI w B v x S) (hb : Below w.heap.size w w') : GI w' B v x S := by
  obtain ⟨a, n, c, h1, h2⟩ := h; exact ⟨a, n, c, h1, h2.below hb⟩
theorem GI.mono {w : World} {B B' : Nat} {v : Value} {x : Int} {S : Nat} (h : GI w B v x S) (hB : B' ≤ B) : GI w B' v x S := by
  obtain ⟨a, n, c, h1, h2⟩ := h; exact ⟨a, n, c, h1, h2.mono hB⟩
theorem GI.le {w : World} {B : Nat} {v : Value} {x : Int} {S S' : Nat} (h : GI w B v x S) (hS : S ≤ S') : GI w B v x S' := by
  obtain ⟨a, n, c, h1, h2⟩ := h; exact ⟨a, n, c, h1, h2.le hS⟩
theorem GI.val {w : World} {B : Nat} {v : Value} {x y : Int} {S : Nat} (h : GI w B v x S) (e : x = y) : GI w B v y S := e ▸ h
theorem GI.ni {w : World} {B : Nat} {v : Value} {x : Int} {S : Nat} (h : GI w B v x S) : NI w v x S := by
  obtain ⟨a, n, c, h1, h2⟩ := h; exact ⟨_, a, n, c, _, h1, h2.num, (ws_sign x).symm⟩
theorem NI.below {w w' : World} {v : Value} {x : Int} {S : Nat} (h : NI w v x S) (hb : Below w.heap.size w w') : NI w' v x S := by
  obtain ⟨b, a, n, c, m, h1, h2, h3⟩ := h; exact ⟨b, a, n, c, m, h1, h2.below hb, h3⟩
theorem NI.val {w : World} {v : Value} {x y : Int} {S : Nat} (h : NI w v x S) (e : x = y) : NI w v y S := e ▸ h
theorem Got.gi {w : World} {B : Nat} {a : Option Addr} {n c : Nat} {m : Int} {S : Nat} (b : Bool) (h : Got w B (.slice a n c) m S) : GI w B (.agg #[.bool (b && decide (0 < n)), .slice a n c]) (ws b m) S := by
  obtain ⟨h0, h1⟩ := h.pos
  refine ⟨a, n, c, ?_, by rw [ws_abs h0]; exact h⟩
  rw [← ws_lt h0]
  congr 4
  simp only [h1]

theorem normG {a : Option Addr} {n c : Nat} {m : Int} {S : Nat} (w : World) (h : Num w a n c m S) (hS : S ≤ 100000000000) :
    Calls Tryd.prog 59 #[.slice a n c] w fun e w' => ∃ a1 n1 c1, e = .returned (.slice a1 n1 c1) ∧ Got w' w.heap.size (.slice a1 n1 c1) m S ∧ Below w.heap.size w w' := by
  obtain ⟨xs, h1, h2, h3, h4, h5, h6⟩ := h
  refine (norm_any a n c xs w h1 h2 (by omega) h3).mono ?_
  rintro e w' ⟨g, rfl, hg, hb, hbel⟩
  have ht := tl_le xs xs.length
  have hl := length_trimL xs
  have := got_of_blk hb h4.trim hg _ rfl (S := S) (by rw [hl]; unfold tlen; omega) (by rw [hl]; unfold tlen; omega)
  rw [tlen_trimL, val_trimL, h5, hl] at this
  exact ⟨_, _, _, rfl, this, hbel⟩
theorem Got.off {w w' : World} {B R : Nat} {v : Value} {x : Int} {S : Nat} (h : Got w B v x S) (ho : Off R w w') (hR : R < B) : Got w' B v x S := by
  obtain ⟨xs, h1, h2⟩ := h
  refine ⟨xs, ?_, h2⟩
  refine ⟨h1.1, ?_⟩
  rcases h1.2 with hn | ⟨g, cap, cur, e1, e2, hgb, rest⟩
  · exact .inl hn
  · exact .inr ⟨g, cap, cur, e1, e2, (ho.block g (by omega)).trans hgb, rest⟩
theorem GI.off {w w' : World} {B R : Nat} {v : Value} {x : Int} {S : Nat} (h : GI w B v x S) (ho : Off R w w') (hR : R < B) : GI w' B v x S := by
  obtain ⟨a, n, c, h1, h2⟩ := h; exact ⟨a, n, c, h1, h2.off ho hR⟩
/-- The variable of a whole number's answer, in block R. -/
structure Var2 (w : World) (R : Nat) (u v : Value) : Prop where
  c0 : w.cell? ⟨R, 0, none⟩ = some u
  c1 : w.cell? ⟨R, 1, none⟩ = some v
  f0 : w.frozen? ⟨R, 0, none⟩ = false
  f1 : w.frozen? ⟨R, 1, none⟩ = false
theorem var2_new (w : World) (u v : Value) (t : TypeId) : Var2 (w.alloc (.cells #[u, v] t)) w.heap.size u v := by
  have h : (w.alloc (.cells #[u, v] t)).heap[w.heap.size]? = some (.cells #[u, v] t) := heap_alloc_new _ _
  exact ⟨by unfold World.cell?; rw [h]; rfl, by unfold World.cell?; rw [h]; rfl, by unfold World.frozen?; rw [h]; simp, by unfold World.frozen?; rw [h]; simp⟩
theorem Var2.lt {w : World} {R : Nat} {u v : Value} (h : Var2 w R u v) : R < w.heap.size := World.block_lt_of_cell? _ _ h.c0
theorem Var2.below {w w' : World} {R : Nat} {u v : Value} (h : Var2 w R u v) (hb : Below w.heap.size w w') : Var2 w' R u v := by
  have e := hb.block R h.lt
  exact ⟨(World.cell?_of_block (a := ⟨R, 0, none⟩) e).trans h.c0, (World.cell?_of_block (a := ⟨R, 1, none⟩) e).trans h.c1, (World.frozen?_of_block (a := ⟨R, 0, none⟩) e).trans h.f0, (World.frozen?_of_block (a := ⟨R, 1, none⟩) e).trans h.f1⟩
/-- What lies behind an answer's writing into its variable. -/
theorem Var2.set {w : World} {R : Nat} {u v : Value} (h : Var2 w R u v) (u' v' : Value) : Var2 ((w.setCell ⟨R, 0, none⟩ u').setCell ⟨R, 1, none⟩ v') R u' v' ∧ Off R w ((w.setCell ⟨R, 0, none⟩ u').setCell ⟨R, 1, none⟩ v') := by
  refine ⟨⟨?_, ?_, ?_, ?_⟩, ((Off.refl _ _).set 0 u').set 1 v'⟩
  · rw [World.cell?_setCell_other _ _ _ _ (by simp), World.cell?_setCell_same _ _ _ h.c0]
  · rw [World.cell?_setCell_same _ _ _ ((World.cell?_setCell_other _ _ _ _ (by simp)).trans h.c1)]
  · rw [World.frozen?_setCell, World.frozen?_setCell]; exact h.f0
  · rw [World.frozen?_setCell, World.frozen?_setCell]; exact h.f1

set_option maxHeartbeats 1000000 in
/-- whole.From -/
theorem fromI {a : Option Addr} {n c : Nat} {m : Int} {S : Nat} (b : Bool) (w : World) (h : Num w a n c m S) (hS : S ≤ 100000000000) :
    Calls Tryd.prog 34 #[.bool b, .slice a n c] w fun e w' => ∃ v, e = .returned v ∧ GI w' w.heap.size v (ws b m) S ∧ Below w.heap.size w w' := by
  have R0 := var2_new w (.bool false) (.slice none 0 0) 25
  have hb0 : Below w.heap.size w (w.alloc (.cells #[.bool false, .slice none 0 0] 25)) := (Below.refl _ _).alloc (Nat.le_refl _) _
  have hsz : w.heap.size < (w.alloc (.cells #[.bool false, .slice none 0 0] 25)).heap.size := by simp
  replace h := h.below hb0
  go_enter Tryd.func34, Tryd.ntmps34
  go_wp2_with fail
  generalize w.alloc (.cells #[.bool false, .slice none 0 0] 25) = W0 at *
  refine (normG _ h hS).mono ?_
  rintro e w1 ⟨a1, n1, c1, rfl, G, hb⟩
  replace R0 := R0.below hb
  replace hb0 := hb0.trans (hb.mono hb0.size)
  clear h
  go_wp2_with fail
  refine (signed_any _ _ _ _ _).mono ?_
  rintro e w2 ⟨rfl, hb2⟩
  replace R0 := R0.below hb2
  replace hb0 := hb0.trans (hb2.mono hb0.size)
  have GF := (G.gi b).below hb2
  obtain ⟨q0, q1, q2, q3⟩ := id R0
  have hs1 : W0.heap.size ≤ w1.heap.size := hb.size
  clear hb hb2 G
  go_wp2
  obtain ⟨V, O⟩ := R0.set (.bool (b && decide (0 < n1))) (.slice a1 n1 c1)
  refine bodyPost_ret (v := .agg #[.bool (b && decide (0 < n1)), .slice a1 n1 c1]) (by simp [results, Tryd.results34, go_sem, V.c0, V.c1]) rfl ⟨_, rfl, ((GF.off O (by omega)).mono (by omega)), hb0.trans (O.below (Nat.le_refl _))⟩
end Go.Proofs.YtfelogbfijomiaaDoor

namespace Go.Proofs.YtfelogbfijomiaaDoor
open Go.RowKit

theorem box1 (w : World) (u0 v0 : Value) (t : TypeId) : Var2 (w.alloc (.cells #[u0, v0] t)) w.heap.size u0 v0 ∧ Below w.heap.size w (w.alloc (.cells #[u0, v0] t)) ∧ (w.alloc (.cells #[u0, v0] t)).heap.size = w.heap.size + 1 :=
  ⟨var2_new _ _ _ _, (Below.refl _ _).alloc (Nat.le_refl _) _, by simp⟩
theorem Var2.alloc {w : World} {R : Nat} {u v : Value} (h : Var2 w R u v) (o : Obj) : Var2 (w.alloc o) R u v := h.below ((Below.refl _ _).alloc (Nat.le_refl _) _)
theorem box2 (w : World) (u0 v0 u1 v1 : Value) (t : TypeId) : Var2 ((w.alloc (.cells #[u0, v0] t)).alloc (.cells #[u1, v1] t)) w.heap.size u0 v0 ∧ Var2 ((w.alloc (.cells #[u0, v0] t)).alloc (.cells #[u1, v1] t)) (w.heap.size + 1) u1 v1 ∧
    Below w.heap.size w ((w.alloc (.cells #[u0, v0] t)).alloc (.cells #[u1, v1] t)) ∧ ((w.alloc (.cells #[u0, v0] t)).alloc (.cells #[u1, v1] t)).heap.size = w.heap.size + 2 := by
  obtain ⟨a1, a2, a3⟩ := box1 w u0 v0 t
  have h := var2_new (w.alloc (.cells #[u0, v0] t)) u1 v1 t
  rw [World.size_alloc] at h
  exact ⟨a1.alloc _, h, a2.alloc (by simp) _, by simp⟩
theorem box3 (w : World) (u0 v0 u1 v1 u2 v2 : Value) (t : TypeId) : Var2 (((w.alloc (.cells #[u0, v0] t)).alloc (.cells #[u1, v1] t)).alloc (.cells #[u2, v2] t)) w.heap.size u0 v0 ∧ Var2 (((w.alloc (.cells #[u0, v0] t)).alloc (.cells #[u1, v1] t)).alloc (.cells #[u2, v2] t)) (w.heap.size + 1) u1 v1 ∧
    Var2 (((w.alloc (.cells #[u0, v0] t)).alloc (.cells #[u1, v1] t)).alloc (.cells #[u2, v2] t)) (w.heap.size + 2) u2 v2 ∧
    Below w.heap.size w (((w.alloc (.cells #[u0, v0] t)).alloc (.cells #[u1, v1] t)).alloc (.cells #[u2, v2] t)) ∧ (((w.alloc (.cells #[u0, v0] t)).alloc (.cells #[u1, v1] t)).alloc (.cells #[u2, v2] t)).heap.size = w.heap.size + 3 := by
  obtain ⟨a1, a2, a3, a4⟩ := box2 w u0 v0 u1 v1 t
  have h := var2_new ((w.alloc (.cells #[u0, v0] t)).alloc (.cells #[u1, v1] t)) u2 v2 t
  rw [a4] at h
  exact ⟨a1.alloc _, a2.alloc _, h, a3.alloc (by simp; omega) _, by simp⟩
theorem box4 (w : World) (u0 v0 u1 v1 u2 v2 u3 v3 : Value) (t : TypeId) : Var2 ((((w.alloc (.cells #[u0, v0] t)).alloc (.cells #[u1, v1] t)).alloc (.cells #[u2, v2] t)).alloc (.cells #[u3, v3] t)) w.heap.size u0 v0 ∧ Var2 ((((w.alloc (.cells #[u0, v0] t)).alloc (.cells #[u1, v1] t)).alloc (.cells #[u2, v2] t)).alloc (.cells #[u3, v3] t)) (w.heap.size + 1) u1 v1 ∧
    Var2 ((((w.alloc (.cells #[u0, v0] t)).alloc (.cells #[u1, v1] t)).alloc (.cells #[u2, v2] t)).alloc (.cells #[u3, v3] t)) (w.heap.size + 2) u2 v2 ∧ Var2 ((((w.alloc (.cells #[u0, v0] t)).alloc (.cells #[u1, v1] t)).alloc (.cells #[u2, v2] t)).alloc (.cells #[u3, v3] t)) (w.heap.size + 3) u3 v3 ∧
    Below w.heap.size w ((((w.alloc (.cells #[u0, v0] t)).alloc (.cells #[u1, v1] t)).alloc (.cells #[u2, v2] t)).alloc (.cells #[u3, v3] t)) ∧ ((((w.alloc (.cells #[u0, v0] t)).alloc (.cells #[u1, v1] t)).alloc (.cells #[u2, v2] t)).alloc (.cells #[u3, v3] t)).heap.size = w.heap.size + 4 := by
  obtain ⟨a1, a2, a3, a4, a5⟩ := box3 w u0 v0 u1 v1 u2 v2 t
  have h := var2_new (((w.alloc (.cells #[u0, v0] t)).alloc (.cells #[u1, v1] t)).alloc (.cells #[u2, v2] t)) u3 v3 t
  rw [a5] at h
  exact ⟨a1.alloc _, a2.alloc _, a3.alloc _, h, a4.alloc (by simp; omega) _, by simp⟩

theorem kept_c {w w' : World} {p : Addr} {u : Value} (hb : Below w.heap.size w w') (h : w.cell? p = some u) : w'.cell? p = some u := (hb.cell (World.block_lt_of_cell? _ _ h)).trans h
theorem kept_f {w w' : World} {p : Addr} {u : Value} {b : Bool} (hb : Below w.heap.size w w') (h : w.cell? p = some u) (hf : w.frozen? p = b) : w'.frozen? p = b := (World.frozen?_of_block (hb.block _ (World.block_lt_of_cell? _ _ h))).trans hf
theorem set2_far {w : World} {R j : Nat} {p : Addr} {u v x : Value} (h : w.cell? p = some x) (hp : p.block ≠ R) : ((w.setCell ⟨R, 0, none⟩ u).setCell ⟨R, j, none⟩ v).cell? p = some x := by
  rw [World.cell?_setCell_far _ _ _ _ (Ne.symm hp), World.cell?_setCell_far _ _ _ _ (Ne.symm hp)]; exact h
theorem Var2.off {w w' : World} {R g : Nat} {u v : Value} (h : Var2 w R u v) (o : Off g w w') (hg : R ≠ g) : Var2 w' R u v := by
  have e := o.block R hg
  exact ⟨(World.cell?_of_block (a := ⟨R, 0, none⟩) e).trans h.c0, (World.cell?_of_block (a := ⟨R, 1, none⟩) e).trans h.c1, (World.frozen?_of_block (a := ⟨R, 0, none⟩) e).trans h.f0, (World.frozen?_of_block (a := ⟨R, 1, none⟩) e).trans h.f1⟩
set_option maxHeartbeats 1000000 in
/-- whole.Mul -/
theorem mulI {a b : Option Addr} {na nb ca cb : Nat} {m k : Int} {S R : Nat} (p q : Bool) (w : World) (ha : Num w a na ca m S) (hb : Num w b nb cb k R) (hS : S ≤ 10000000000) (hR : R ≤ 10000000000) :
    Calls Tryd.prog 13 #[.agg #[.bool p, .slice a na ca], .agg #[.bool q, .slice b nb cb]] w fun e w' => ∃ v, e = .returned v ∧ GI w' w.heap.size v (ws p m * ws q k) (S + R) ∧ Below w.heap.size w w' := by
  obtain ⟨P0, P1, R0, hb0, hsz⟩ := box3 w (.bool p) (.slice a na ca) (.bool q) (.slice b nb cb) (.bool false) (.slice none 0 0) 25
  replace ha := ha.below hb0
  replace hb := hb.below hb0
  go_enter Tryd.func13, Tryd.ntmps13
  go_wp2_with fail
  generalize ((w.alloc (.cells #[.bool p, .slice a na ca] 25)).alloc (.cells #[.bool q, .slice b nb cb] 25)).alloc (.cells #[.bool false, .slice none 0 0] 25) = W0 at *
  obtain ⟨p0, p1, p2, p3⟩ := id P0
  obtain ⟨q0, q1, q2, q3⟩ := id P1
  go_region_held3 (fun w' => w'.cell? ⟨w.heap.size, 0, none⟩ = some (.bool p) ∧ w'.cell? ⟨w.heap.size, 1, none⟩ = some (.slice a na ca) ∧ w'.cell? ⟨w.heap.size + 1, 0, none⟩ = some (.bool q) ∧ w'.cell? ⟨w.heap.size + 1, 1, none⟩ = some (.slice b nb cb))
    (first | (go_keep; done) | (refine ⟨?_, ?_, ?_, ?_⟩ <;> first | exact kept_c hb2 (by go_keep) | exact kept_c hb1 (by go_keep)) | (refine ⟨?_, ?_, ?_, ?_⟩ <;> first | exact set2_far (by go_keep) (by simp <;> omega) | exact kept_c (by assumption) (by assumption)))
    ((first
      | (go_at_call 49; go_fit (mulG _ (ha.drewN _) (hb.drewN _) (by omega) (by omega)); rintro e w1 ⟨c1, n1, d1, rfl, G1, hb1⟩; have hc1 := bel_tr (belN (Below.refl _ W0) _) hb1; have R1 := R0.below hc1)
      | (go_at_call 45; go_fit (signed_any _ _ _ _ _); rintro e w2 ⟨rfl, hb2⟩; have hc2 : Below w1.heap.size w1 w2 := (by first | exact hb2 | exact bel_tr (belN (Below.refl _ w1) 1) hb2); have R2 := R1.below hc2; obtain ⟨r0, r1, r2, r3⟩ := id R2)))
  have GF : GI w2 W0.heap.size (.agg #[.bool (!(p == q) && decide (0 < n1)), .slice c1 n1 d1]) (ws p m * ws q k) (S + R) := by rw [ws_mul]; exact (G1.gi (p != q)).below hc2
  have hw2 : Below w.heap.size w w2 := bel_tr hb0 (bel_tr hc1 hc2)
  obtain ⟨V, O⟩ := R2.set (.bool (!(p == q) && decide (0 < n1))) (.slice c1 n1 d1)
  clear hb1 hb2 hc1 hc2 ha hb P0 P1 R0 R1 p0 p1 p2 p3 q0 q1 q2 q3
  go_wp2
  refine bodyPost_ret (v := .agg #[.bool (!(p == q) && decide (0 < n1)), .slice c1 n1 d1]) (by simp [results, Tryd.results13, go_sem, V.c0, V.c1]) rfl ⟨_, rfl, ((GF.off O (by omega)).mono (by omega)), hw2.trans (O.below (by omega))⟩
end Go.Proofs.YtfelogbfijomiaaDoor

namespace Go.Proofs.YtfelogbfijomiaaDoor
open Go.RowKit
theorem pwN (k : Nat) : pw k = ((2 ^ (64 * k) : Nat) : Int) := by
  unfold pw
  rw [Nat.pow_mul, Int.natCast_pow]
  rfl
theorem val_bits {xs : List Int} (hx : AllW xs) : val xs < ((2 ^ (bitsL xs).toNat : Nat) : Int) := by
  unfold bitsL
  by_cases h : tlen xs = 0
  · rw [if_pos h, (tlen_zero hx).1 h]; decide
  · rw [if_neg h]
    obtain ⟨k, hk⟩ : ∃ k, tlen xs = k + 1 := ⟨tlen xs - 1, by omega⟩
    rw [← vS_trim, hk]
    show vS xs k + lm xs k * pw k < _
    have h1 := (vS_nn hx k).2
    have h2 := hx.at k
    have hne := (tl_spec xs xs.length).2 (by show 0 < tlen xs; omega)
    have e : tl xs xs.length = k + 1 := hk
    rw [e, Nat.add_sub_cancel] at hne
    rw [Nat.add_sub_cancel]
    obtain ⟨s1, _, _, _⟩ := bitLen_spec (lm xs k).toNat (by have := h2.2; omega) (by have := h2.1; omega)
    generalize Lib.bitLen (lm xs k).toNat = L at *
    have e2 : (((k + 1 : Nat) : Int) - 1) * 64 + (L : Int) = ((64 * k + L : Nat) : Int) := by omega
    rw [e2, Int.toNat_natCast, Nat.pow_add, Int.natCast_mul, ← pwN]
    have h3 : lm xs k + 1 ≤ ((2 ^ L : Nat) : Int) := by have := h2.1; omega
    have h4 := Int.mul_le_mul_of_nonneg_left h3 (Int.le_of_lt (pw_pos k))
    rw [Int.mul_add, Int.mul_comm (pw k) (lm xs k)] at h4
    omega
theorem pow_small {xs : List Int} (hx : AllW xs) {n : Nat} (h : 0 < bitsL xs → (n : Int) ≤ 131072 / bitsL xs) (hb : 0 ≤ bitsL xs) {m : Nat} (hm : m ≤ n) {K : Nat} (hK : 2049 ≤ K) : val xs ^ m < pw K := by
  have hv := val_bits hx
  have hn := val_nn hx
  obtain ⟨v, hv'⟩ := Int.eq_ofNat_of_zero_le hn
  rw [hv'] at hv ⊢
  have hv2 : v < 2 ^ (bitsL xs).toNat := Int.ofNat_lt.1 hv
  rw [pwN, ← Int.natCast_pow]
  have key : v ^ m < 2 ^ (64 * K) := by
    rcases (by omega : bitsL xs = 0 ∨ 0 < bitsL xs) with h0 | h0
    · rw [h0] at hv2
      have : v = 0 := by simpa using hv2
      subst this
      have h5 : 0 ^ m ≤ 1 := by cases m <;> simp
      have h6 : 1 < 2 ^ (64 * K) := Nat.one_lt_pow (by omega) (by decide)
      omega
    · have h1 := (Int.le_ediv_iff_mul_le h0).1 (h h0)
      obtain ⟨b, hb'⟩ := Int.eq_ofNat_of_zero_le hb
      rw [hb'] at h1 hv2
      rw [Int.toNat_natCast] at hv2
      have h2 : n * b ≤ 131072 := by rw [← Int.natCast_mul] at h1; omega
      have h3 : m * b ≤ n * b := Nat.mul_le_mul_right b hm
      have h4 : v ^ m ≤ (2 ^ b) ^ m := Nat.pow_le_pow_left (Nat.le_of_lt hv2) m
      rw [← Nat.pow_mul] at h4
      have h5 : 2 ^ (b * m) < 2 ^ (64 * K) := Nat.pow_lt_pow_right (by decide) (by rw [Nat.mul_comm]; omega)
      omega
  exact Int.ofNat_lt.2 key
end Go.Proofs.YtfelogbfijomiaaDoor

namespace Go.Proofs.YtfelogbfijomiaaDoor
open Go.RowKit

theorem ws_add (b : Bool) (m k : Int) : ws b (m + k) = ws b m + ws b k := by unfold ws; cases b <;> simp; omega
theorem bitsG {a : Option Addr} {na ca : Nat} {m : Int} {S : Nat} (w : World) (ha : Num w a na ca m S) (hS : S ≤ 10000000000) :
    Calls Tryd.prog 58 #[.slice a na ca] w fun e w' => ∃ t, e = .returned (.int .i64 t) ∧ (t = 0 ↔ m = 0) ∧ w = w' := by
  obtain ⟨xs, h1, h2, h3, h4, h5, h6⟩ := ha
  refine (bits_any a na ca xs w h1 h2 (by omega) h3 h4).mono ?_
  rintro e w' ⟨rfl, rfl⟩
  refine ⟨_, rfl, ⟨fun h => ?_, fun h => bitsL_zero h4 (by omega)⟩, rfl⟩
  have h7 := val_bits h4
  have h8 := val_nn h4
  rw [h] at h7
  have e1 : ((2 ^ (0 : Int).toNat : Nat) : Int) = 1 := rfl
  rw [e1] at h7
  omega
set_option maxHeartbeats 1000000 in
/-- whole.Sign -/
theorem signI {a : Option Addr} {na ca : Nat} {m : Int} {S : Nat} (p : Bool) (w : World) (ha : Num w a na ca m S) (hS : S ≤ 10000000000) :
    Calls Tryd.prog 27 #[.agg #[.bool p, .slice a na ca]] w fun e w' => e = .returned (.int .i64 (ws p m).sign) ∧ Below w.heap.size w w' := by
  have h0 := ha.nn
  have HS : Hid ((m = 0 → (ws p m).sign = 0) ∧ (m ≠ 0 → p = true → (ws p m).sign = -1) ∧ (m ≠ 0 → p = false → (ws p m).sign = 1)) := by
    refine ⟨fun h => ?_, fun h h1 => ?_, fun h h1 => ?_⟩
    · rw [h, ws_zero]; rfl
    · rw [h1]; unfold ws; simp only [if_true]; exact Int.sign_eq_neg_one_of_neg (by omega)
    · rw [h1]; unfold ws; simp only [Bool.false_eq_true, if_false]; exact Int.sign_eq_one_of_pos (by omega)
  obtain ⟨P0, hb0, hsz⟩ := box1 w (.bool p) (.slice a na ca) 25
  replace ha := ha.below hb0
  go_enter Tryd.func27, Tryd.ntmps27
  go_wp2_with fail
  generalize w.alloc (.cells #[.bool p, .slice a na ca] 25) = W0 at *
  obtain ⟨p00, p01, p02, p03⟩ := id P0
  refine (bitsG _ ha (by omega)).mono ?_
  rintro e w2 ⟨t, rfl, ht, rfl⟩
  by_cases hm : m = 0
  · have HX : Hid ((ws p m).sign = 0) := HS.out.1 hm
    obtain rfl : t = 0 := ht.2 hm
    clear HS P0 ha ht h0 hm
    go_wp2
    go_ret
    exact ⟨by rw [HX.out]; rfl, hb0⟩
  · have h1 : t ≠ 0 := fun h => hm (ht.1 h)
    cases p with
    | true =>
      have HX : Hid ((ws true m).sign = -1) := HS.out.2.1 hm rfl
      clear HS P0 ha ht h0 hm
      go_wp2
      go_ret
      exact ⟨by rw [HX.out]; rfl, hb0⟩
    | false =>
      have HX : Hid ((ws false m).sign = 1) := HS.out.2.2 hm rfl
      clear HS P0 ha ht h0 hm
      go_wp2
      go_ret
      exact ⟨by rw [HX.out]; rfl, hb0⟩

set_option maxHeartbeats 1000000 in
/-- whole.Add of two of one sign -/
theorem addI1 {a b : Option Addr} {na nb ca cb : Nat} {m k : Int} {S R : Nat} (p : Bool) (w : World) (ha : Num w a na ca m S) (hb : Num w b nb cb k R) (hS : S ≤ 10000000000) (hR : R ≤ 10000000000) :
    Calls Tryd.prog 10 #[.agg #[.bool p, .slice a na ca], .agg #[.bool p, .slice b nb cb]] w fun e w' => ∃ v, e = .returned v ∧ GI w' w.heap.size v (ws p m + ws p k) (S + R + 1) ∧ Below w.heap.size w w' := by
  obtain ⟨P0, P1, R0, hb0, hsz⟩ := box3 w (.bool p) (.slice a na ca) (.bool p) (.slice b nb cb) (.bool false) (.slice none 0 0) 25
  replace ha := ha.below hb0
  replace hb := hb.below hb0
  go_enter Tryd.func10, Tryd.ntmps10
  go_wp2_with fail
  generalize ((w.alloc (.cells #[.bool p, .slice a na ca] 25)).alloc (.cells #[.bool p, .slice b nb cb] 25)).alloc (.cells #[.bool false, .slice none 0 0] 25) = W0 at *
  obtain ⟨p00, p01, p02, p03⟩ := id P0
  obtain ⟨p10, p11, p12, p13⟩ := id P1
  go_region_held3 (fun w' => w'.cell? ⟨w.heap.size, 0, none⟩ = some (.bool p) ∧ w'.cell? ⟨w.heap.size, 1, none⟩ = some (.slice a na ca) ∧ w'.cell? ⟨w.heap.size + 1, 0, none⟩ = some (.bool p) ∧ w'.cell? ⟨w.heap.size + 1, 1, none⟩ = some (.slice b nb cb))
    (first | (go_keep; done) | (refine ⟨?_, ?_, ?_, ?_⟩ <;> first | exact kept_c hb2 (by go_keep) | exact kept_c hb1 (by go_keep)) | (refine ⟨?_, ?_, ?_, ?_⟩ <;> first | exact set2_far (by go_keep) (by simp <;> omega) | exact kept_c (by assumption) (by assumption)))
    ((first
      | (go_at_call 46; go_fit (addG _ (ha.drewN _) (hb.drewN _) (by omega) (by omega)); rintro e w1 ⟨c1, n1, d1, rfl, G1, hb1⟩; have hc1 := bel_tr (belN (Below.refl _ W0) _) hb1; have R1 := R0.below hc1)
      | (go_at_call 45; go_fit (signed_any _ _ _ _ _); rintro e w2 ⟨rfl, hb2⟩; have hc2 : Below w1.heap.size w1 w2 := (by first | exact hb2 | exact bel_tr (belN (Below.refl _ w1) 1) hb2); have R2 := R1.below hc2; obtain ⟨r0, r1, r2, r3⟩ := id R2)))
  have GF : GI w2 W0.heap.size (.agg #[.bool (p && decide (0 < n1)), .slice c1 n1 d1]) (ws p m + ws p k) (S + R + 1) := ((G1.gi p).below hc2).val (ws_add p m k)
  have hw2 : Below w.heap.size w w2 := bel_tr hb0 (bel_tr hc1 hc2)
  obtain ⟨V, O⟩ := R2.set (.bool (p && decide (0 < n1))) (.slice c1 n1 d1)
  clear hb1 hb2 hc1 hc2 ha hb P0 P1 R0 R1 p00 p01 p02 p03 p10 p11 p12 p13
  go_wp2
  refine bodyPost_ret (v := .agg #[.bool (p && decide (0 < n1)), .slice c1 n1 d1]) (by simp [results, Tryd.results10, go_sem, V.c0, V.c1]) rfl ⟨_, rfl, ((GF.off O (by omega)).mono (by omega)), hw2.trans (O.below (by omega))⟩

set_option maxHeartbeats 1000000 in
/-- whole.Add of two of two signs, the first as far from nought, or farther -/
theorem addI2 {a b : Option Addr} {na nb ca cb : Nat} {m k : Int} {S R : Nat} (p q : Bool) (w : World) (ha : Num w a na ca m S) (hb : Num w b nb cb k R) (hS : S ≤ 10000000000) (hR : R ≤ 10000000000) (hpq : (p == q) = false) (hmk : k ≤ m) :
    Calls Tryd.prog 10 #[.agg #[.bool p, .slice a na ca], .agg #[.bool q, .slice b nb cb]] w fun e w' => ∃ v, e = .returned v ∧ GI w' w.heap.size v (ws p m + ws q k) (S + R + 1) ∧ Below w.heap.size w w' := by
  have HV : Hid (ws p m + ws q k = ws p (m - k)) := by
    show _ = _
    cases p <;> cases q <;> simp_all [ws] <;> omega
  obtain ⟨P0, P1, R0, hb0, hsz⟩ := box3 w (.bool p) (.slice a na ca) (.bool q) (.slice b nb cb) (.bool false) (.slice none 0 0) 25
  replace ha := ha.below hb0
  replace hb := hb.below hb0
  go_enter Tryd.func10, Tryd.ntmps10
  go_wp2_with fail
  generalize ((w.alloc (.cells #[.bool p, .slice a na ca] 25)).alloc (.cells #[.bool q, .slice b nb cb] 25)).alloc (.cells #[.bool false, .slice none 0 0] 25) = W0 at *
  obtain ⟨p00, p01, p02, p03⟩ := id P0
  obtain ⟨p10, p11, p12, p13⟩ := id P1
  refine (cmpV _ ha hb (by omega) (by omega)).mono ?_
  rintro e w1 ⟨c, rfl, hc, j, rfl⟩
  have hc0 : 0 ≤ c := by omega
  have hbj : Below W0.heap.size W0 (W0.drewN j) := belN (Below.refl _ _) j
  replace P0 := P0.below hbj
  replace P1 := P1.below hbj
  replace R0 := R0.below hbj
  replace ha := ha.below hbj
  replace hb := hb.below hbj
  replace hb0 := bel_tr hb0 hbj
  have hszj : (W0.drewN j).heap.size = w.heap.size + 3 := hsz
  generalize W0.drewN j = W1 at *
  clear hbj hc p00 p01 p02 p03 p10 p11 p12 p13 hsz
  obtain ⟨p00, p01, p02, p03⟩ := id P0
  obtain ⟨p10, p11, p12, p13⟩ := id P1
  go_wp2_with fail
  refine (subG _ ha hb (by omega) (by omega) (by omega)).mono ?_
  rintro e w3 ⟨c1, n1, d1, rfl, G1, hb3⟩
  have R3 := R0.below hb3
  have V3 := P0.below hb3
  have hbw := bel_tr hb0 hb3
  obtain ⟨x0, x1, x2, x3⟩ := id V3
  clear ha hb P0 P1 R0 p00 p01 p02 p03 p10 p11 p12 p13 hb0
  have hs3 : w.heap.size + 3 ≤ w3.heap.size := by have := hb3.size; omega
  go_wp2_with fail
  refine (signed_any _ _ _ _ _).mono ?_
  rintro e w2 ⟨rfl, hb4⟩
  have R2 := R3.below hb4
  obtain ⟨r0, r1, r2, r3⟩ := id R2
  have GF : GI w2 W1.heap.size (.agg #[.bool (p && decide (0 < n1)), .slice c1 n1 d1]) (ws p m + ws q k) (S + R + 1) := (((G1.gi p).below hb4).val HV.out.symm).le (by omega)
  have hw2 : Below w.heap.size w w2 := bel_tr hbw hb4
  obtain ⟨V, O⟩ := R2.set (.bool (p && decide (0 < n1))) (.slice c1 n1 d1)
  clear hb3 hb4 V3 R3 x0 x1 x2 x3 hbw G1
  go_wp2
  refine bodyPost_ret (v := .agg #[.bool (p && decide (0 < n1)), .slice c1 n1 d1]) (by simp [results, Tryd.results10, go_sem, V.c0, V.c1]) rfl ⟨_, rfl, ((GF.off O (by omega)).mono (by omega)), hw2.trans (O.below (by omega))⟩

set_option maxHeartbeats 1000000 in
/-- whole.Add of two of two signs, the second farther from nought -/
theorem addI3 {a b : Option Addr} {na nb ca cb : Nat} {m k : Int} {S R : Nat} (p q : Bool) (w : World) (ha : Num w a na ca m S) (hb : Num w b nb cb k R) (hS : S ≤ 10000000000) (hR : R ≤ 10000000000) (hpq : (p == q) = false) (hmk : m < k) :
    Calls Tryd.prog 10 #[.agg #[.bool p, .slice a na ca], .agg #[.bool q, .slice b nb cb]] w fun e w' => ∃ v, e = .returned v ∧ GI w' w.heap.size v (ws p m + ws q k) (S + R + 1) ∧ Below w.heap.size w w' := by
  have HV : Hid (ws p m + ws q k = ws q (k - m)) := by
    show _ = _
    cases p <;> cases q <;> simp_all [ws] <;> omega
  have ha0 := ha
  have hb00 := hb
  obtain ⟨P0, P1, R0, hb0, hsz⟩ := box3 w (.bool p) (.slice a na ca) (.bool q) (.slice b nb cb) (.bool false) (.slice none 0 0) 25
  replace ha := ha.below hb0
  replace hb := hb.below hb0
  go_enter Tryd.func10, Tryd.ntmps10
  go_wp2_with fail
  generalize ((w.alloc (.cells #[.bool p, .slice a na ca] 25)).alloc (.cells #[.bool q, .slice b nb cb] 25)).alloc (.cells #[.bool false, .slice none 0 0] 25) = W0 at *
  obtain ⟨p00, p01, p02, p03⟩ := id P0
  obtain ⟨p10, p11, p12, p13⟩ := id P1
  refine (cmpV _ ha hb (by omega) (by omega)).mono ?_
  rintro e w1 ⟨c, rfl, hc, j, rfl⟩
  obtain rfl : c = -1 := by omega
  have hbj : Below W0.heap.size W0 (W0.drewN j) := belN (Below.refl _ _) j
  replace P0 := P0.below hbj
  replace P1 := P1.below hbj
  replace R0 := R0.below hbj
  replace ha := ha.below hbj
  replace hb := hb.below hbj
  replace hb0 := bel_tr hb0 hbj
  have hszj : (W0.drewN j).heap.size = w.heap.size + 3 := hsz
  generalize W0.drewN j = W1 at *
  clear hbj hc p00 p01 p02 p03 p10 p11 p12 p13 hsz
  obtain ⟨p00, p01, p02, p03⟩ := id P0
  obtain ⟨p10, p11, p12, p13⟩ := id P1
  obtain ⟨V0, O0⟩ := P0.set (.bool q) (.slice b nb cb)
  have P1' := P1.off O0 (by omega)
  obtain ⟨V1, O1⟩ := P1'.set (.bool p) (.slice a na ca)
  have V0' := V0.off O1 (by omega)
  have R0' := (R0.off O0 (by omega)).off O1 (by omega)
  have hbO := (hb0.trans (O0.below (Nat.le_refl _))).trans (O1.below (by omega))
  have ha' := ha0.below hbO
  have hb' := hb00.below hbO
  have hsO : ((((W1.setCell ⟨w.heap.size, 0, none⟩ (.bool q)).setCell ⟨w.heap.size, 1, none⟩ (.slice b nb cb)).setCell ⟨w.heap.size + 1, 0, none⟩ (.bool p)).setCell ⟨w.heap.size + 1, 1, none⟩ (.slice a na ca)).heap.size = w.heap.size + 3 := by rw [O1.size, O0.size]; exact hszj
  obtain ⟨v00, v01, v02, v03⟩ := id V0'
  obtain ⟨v10, v11, v12, v13⟩ := id V1
  go_wp2_with fail
  generalize (((W1.setCell ⟨w.heap.size, 0, none⟩ (.bool q)).setCell ⟨w.heap.size, 1, none⟩ (.slice b nb cb)).setCell ⟨w.heap.size + 1, 0, none⟩ (.bool p)).setCell ⟨w.heap.size + 1, 1, none⟩ (.slice a na ca) = W2 at *
  refine (subG _ hb' ha' (by omega) (by omega) (by omega)).mono ?_
  rintro e w3 ⟨c1, n1, d1, rfl, G1, hb3⟩
  have R3 := R0'.below hb3
  have V3 := V0'.below hb3
  have hbw := bel_tr hbO hb3
  obtain ⟨x0, x1, x2, x3⟩ := id V3
  clear ha hb ha0 hb00 ha' hb' P0 P1 P1' R0 R0' V0 V0' V1 O0 O1 hb0 p00 p01 p02 p03 p10 p11 p12 p13 v00 v01 v02 v03 v10 v11 v12 v13 hbO
  have hs3 : w.heap.size + 3 ≤ w3.heap.size := by have := hb3.size; omega
  go_wp2_with fail
  refine (signed_any _ _ _ _ _).mono ?_
  rintro e w2 ⟨rfl, hb4⟩
  have R2 := R3.below hb4
  obtain ⟨r0, r1, r2, r3⟩ := id R2
  have GF : GI w2 W2.heap.size (.agg #[.bool (q && decide (0 < n1)), .slice c1 n1 d1]) (ws p m + ws q k) (S + R + 1) := (((G1.gi q).below hb4).val HV.out.symm).le (by omega)
  have hw2 : Below w.heap.size w w2 := bel_tr hbw hb4
  obtain ⟨V, O⟩ := R2.set (.bool (q && decide (0 < n1))) (.slice c1 n1 d1)
  clear hb3 hb4 V3 R3 x0 x1 x2 x3 hbw G1
  go_wp2
  refine bodyPost_ret (v := .agg #[.bool (q && decide (0 < n1)), .slice c1 n1 d1]) (by simp [results, Tryd.results10, go_sem, V.c0, V.c1]) rfl ⟨_, rfl, ((GF.off O (by omega)).mono (by omega)), hw2.trans (O.below (by omega))⟩

/-- whole.Add -/
theorem addI {a b : Option Addr} {na nb ca cb : Nat} {m k : Int} {S R : Nat} (p q : Bool) (w : World) (ha : Num w a na ca m S) (hb : Num w b nb cb k R) (hS : S ≤ 10000000000) (hR : R ≤ 10000000000) :
    Calls Tryd.prog 10 #[.agg #[.bool p, .slice a na ca], .agg #[.bool q, .slice b nb cb]] w fun e w' => ∃ v, e = .returned v ∧ GI w' w.heap.size v (ws p m + ws q k) (S + R + 1) ∧ Below w.heap.size w w' := by
  by_cases hpq : p = q
  · subst hpq; exact addI1 p w ha hb hS hR
  · have h1 : (p == q) = false := by simpa using hpq
    rcases Int.lt_or_le m k with h2 | h2
    · exact addI3 p q w ha hb hS hR h1 h2
    · exact addI2 p q w ha hb hS hR h1 h2
end Go.Proofs.YtfelogbfijomiaaDoor

namespace Go.Proofs.YtfelogbfijomiaaDoor
open Go.RowKit

theorem wrap_neg {v : Int} (h : v < 0) (h0 : -9223372036854775808 ≤ v) : IntKind.u64.wrap (-IntKind.u64.wrap v) = -v := by
  have e : ∀ x : Int, IntKind.u64.wrap x = x % 18446744073709551616 := fun x => by simp [IntKind.wrap, IntKind.signed, IntKind.bits]
  rw [e, e]; omega
theorem sign_of {c x : Int} (h : (c = 0 ∧ x = 0) ∨ (c = -1 ∧ x < 0) ∨ (c = 1 ∧ 0 < x)) : c = x.sign := by
  rcases h with ⟨rfl, h⟩ | ⟨rfl, h⟩ | ⟨rfl, h⟩
  · rw [h]; rfl
  · rw [Int.sign_eq_neg_one_of_neg h]
  · rw [Int.sign_eq_one_of_pos h]
theorem sign_is (x : Int) : (x.sign = 0 ∧ x = 0) ∨ (x.sign = -1 ∧ x < 0) ∨ (x.sign = 1 ∧ 0 < x) := by
  rcases Int.lt_trichotomy x 0 with h | h | h
  · exact .inr (.inl ⟨Int.sign_eq_neg_one_of_neg h, h⟩)
  · exact .inl ⟨by rw [h]; rfl, h⟩
  · exact .inr (.inr ⟨Int.sign_eq_one_of_pos h, h⟩)
set_option maxHeartbeats 1000000 in
/-- whole.Sub -/
theorem subI {a b : Option Addr} {na nb ca cb : Nat} {m k : Int} {S R : Nat} (p q : Bool) (w : World) (ha : Num w a na ca m S) (hb : Num w b nb cb k R) (hS : S ≤ 10000000000) (hR : R ≤ 10000000000) :
    Calls Tryd.prog 16 #[.agg #[.bool p, .slice a na ca], .agg #[.bool q, .slice b nb cb]] w fun e w' => ∃ v, e = .returned v ∧ GI w' w.heap.size v (ws p m - ws q k) (S + R + 1) ∧ Below w.heap.size w w' := by
  obtain ⟨P0, P1, R0, hb0, hsz⟩ := box3 w (.bool p) (.slice a na ca) (.bool (!q)) (.slice b nb cb) (.bool false) (.slice none 0 0) 25
  replace ha := ha.below hb0
  replace hb := hb.below hb0
  go_enter Tryd.func16, Tryd.ntmps16
  go_wp2_with fail
  generalize ((w.alloc (.cells #[.bool p, .slice a na ca] 25)).alloc (.cells #[.bool (!q), .slice b nb cb] 25)).alloc (.cells #[.bool false, .slice none 0 0] 25) = W0 at *
  refine (addI p (!q) _ ha hb hS hR).mono ?_
  rintro e w2 ⟨v, rfl, G, hb1⟩
  obtain ⟨c1, n1, d1, rfl, GG⟩ := id G
  have GF := G.val (show ws p m + ws (!q) k = ws p m - ws q k by rw [ws_not]; omega)
  have R1 := R0.below hb1
  obtain ⟨r0, r1, r2, r3⟩ := id R1
  have hw2 := bel_tr hb0 hb1
  obtain ⟨V, O⟩ := R1.set (.bool (decide (ws p m + ws (!q) k < 0))) (.slice c1 n1 d1)
  clear P0 P1 R0 ha hb hb0 hb1 GG G
  go_wp2
  refine bodyPost_ret (v := .agg #[.bool (decide (ws p m + ws (!q) k < 0)), .slice c1 n1 d1]) (by simp [results, Tryd.results16, go_sem, V.c0, V.c1]) rfl ⟨_, rfl, ((GF.off O (by omega)).mono (by omega)), hw2.trans (O.below (by omega))⟩

set_option maxHeartbeats 1000000 in
/-- whole.Of -/
theorem ofI (v : Int) (w : World) (h0 : -9223372036854775808 ≤ v) (h1 : v < 9223372036854775808) :
    Calls Tryd.prog 14 #[.int .i64 v] w fun e w' => ∃ u, e = .returned u ∧ GI w' w.heap.size u v 1 ∧ Below w.heap.size w w' := by
  obtain ⟨R0, hb0, hsz⟩ := box1 w (.bool false) (.slice none 0 0) 25
  by_cases hv : v < 0
  · go_enter Tryd.func14, Tryd.ntmps14
    go_wp2_with fail
    generalize w.alloc (.cells #[.bool false, .slice none 0 0] 25) = W0 at *
    rw [wrap_neg hv h0]
    refine (ofG (-v) _ (by omega) (by omega)).mono ?_
    rintro e w1 ⟨c1, n1, d1, rfl, G, hb1⟩
    replace R0 := R0.below hb1
    replace hb0 := bel_tr hb0 hb1
    have hs1 := hb1.size
    go_wp2_with fail
    refine (signed_any _ _ _ _ _).mono ?_
    rintro e w2 ⟨rfl, hb2⟩
    have R1 := R0.below hb2
    have GF : GI w2 W0.heap.size _ v 1 := ((G.gi true).below hb2).val (by simp [ws])
    have hw2 := bel_tr hb0 hb2
    obtain ⟨r0, r1, r2, r3⟩ := id R1
    obtain ⟨V, O⟩ := R1.set (.bool (decide (0 < n1))) (.slice c1 n1 d1)
    clear R0 hb0 hb1 hb2
    go_wp2
    refine bodyPost_ret (v := .agg #[.bool (decide (0 < n1)), .slice c1 n1 d1]) (by simp [results, Tryd.results14, go_sem, V.c0, V.c1]) rfl ⟨_, rfl, ((GF.off O (by omega)).mono (by omega)), hw2.trans (O.below (by omega))⟩
  · go_enter Tryd.func14, Tryd.ntmps14
    go_wp2_with fail
    generalize w.alloc (.cells #[.bool false, .slice none 0 0] 25) = W0 at *
    refine (ofG (v) _ (by omega) (by omega)).mono ?_
    rintro e w1 ⟨c1, n1, d1, rfl, G, hb1⟩
    replace R0 := R0.below hb1
    replace hb0 := bel_tr hb0 hb1
    have hs1 := hb1.size
    go_wp2_with fail
    refine (signed_any _ _ _ _ _).mono ?_
    rintro e w2 ⟨rfl, hb2⟩
    have R1 := R0.below hb2
    have GF : GI w2 W0.heap.size _ v 1 := ((G.gi false).below hb2).val (by simp [ws])
    have hw2 := bel_tr hb0 hb2
    obtain ⟨r0, r1, r2, r3⟩ := id R1
    obtain ⟨V, O⟩ := R1.set (.bool false) (.slice c1 n1 d1)
    clear R0 hb0 hb1 hb2
    go_wp2
    refine bodyPost_ret (v := .agg #[.bool false, .slice c1 n1 d1]) (by simp [results, Tryd.results14, go_sem, V.c0, V.c1]) rfl ⟨_, rfl, ((GF.off O (by omega)).mono (by omega)), hw2.trans (O.below (by omega))⟩

set_option maxHeartbeats 1000000 in
/-- whole.Cmp -/
theorem wcmpI {a b : Option Addr} {na nb ca cb : Nat} {m k : Int} {S R : Nat} (p q : Bool) (w : World) (ha : Num w a na ca m S) (hb : Num w b nb cb k R) (hS : S ≤ 10000000000) (hR : R ≤ 10000000000) :
    Calls Tryd.prog 28 #[.agg #[.bool p, .slice a na ca], .agg #[.bool q, .slice b nb cb]] w fun e w' => e = .returned (.int .i64 (ws p m - ws q k).sign) ∧ Below w.heap.size w w' := by
  obtain ⟨P0, P1, hb0, hsz⟩ := box2 w (.bool p) (.slice a na ca) (.bool q) (.slice b nb cb) 25
  replace ha := ha.below hb0
  replace hb := hb.below hb0
  go_enter Tryd.func28, Tryd.ntmps28
  go_wp2_with fail
  generalize (w.alloc (.cells #[.bool p, .slice a na ca] 25)).alloc (.cells #[.bool q, .slice b nb cb] 25) = W0 at *
  obtain ⟨p00, p01, p02, p03⟩ := id P0
  obtain ⟨p10, p11, p12, p13⟩ := id P1
  go_region_held3 (fun w' => w'.cell? ⟨w.heap.size, 0, none⟩ = some (.bool p) ∧ w'.cell? ⟨w.heap.size, 1, none⟩ = some (.slice a na ca) ∧ w'.cell? ⟨w.heap.size + 1, 0, none⟩ = some (.bool q) ∧ w'.cell? ⟨w.heap.size + 1, 1, none⟩ = some (.slice b nb cb))
    (first | (go_keep; done) | (refine ⟨?_, ?_, ?_, ?_⟩ <;> first | exact kept_c hb2 (by go_keep) | exact kept_c hb1 (by go_keep)) | (refine ⟨?_, ?_, ?_, ?_⟩ <;> first | exact set2_far (by go_keep) (by simp <;> omega) | exact kept_c (by assumption) (by assumption)))
    ((first
      | (go_at_call 27; go_fit (signI p _ (ha.drewN _) (by omega)); rintro e w1 ⟨rfl, hb1⟩)
      | (go_at_call 27; go_fit (signI q _ (hb.drewN _) (by omega)); rintro e w1 ⟨rfl, hb1⟩)
      | (go_at_call 27; go_fit (signI p _ ((ha.drewN _).below hb1) (by omega)); rintro e w2 ⟨rfl, hb2⟩)
      | (go_at_call 27; go_fit (signI q _ ((hb.drewN _).below hb1) (by omega)); rintro e w2 ⟨rfl, hb2⟩)))
  have hc1 : Below W0.heap.size W0 w1 := bel_tr (belN (Below.refl _ W0) _) hb1
  have hc2 : Below w1.heap.size w1 w2 := by first | exact hb2 | exact bel_tr (belN (Below.refl _ w1) 1) hb2
  have hc := bel_tr hc1 hc2
  replace P0 := P0.below hc
  replace P1 := P1.below hc
  replace ha := ha.below hc
  replace hb := hb.below hc
  replace hb0 := bel_tr hb0 hc
  have n1 := ha.nn
  have n2 := hb.nn
  have x1 : ws p m = m ∨ ws p m = -m := by unfold ws; cases p <;> simp
  have x2 : ws q k = k ∨ ws q k = -k := by unfold ws; cases q <;> simp
  have g1 := sign_is (ws p m)
  have g2 := sign_is (ws q k)
  generalize (ws p m).sign = s1 at *
  generalize (ws q k).sign = s2 at *
  obtain ⟨X, hX⟩ : ∃ X, ws p m = X := ⟨_, rfl⟩
  obtain ⟨Y, hY⟩ : ∃ Y, ws q k = Y := ⟨_, rfl⟩
  have HE : Hid (ws p m - ws q k = X - Y) := by show _ = _; rw [hX, hY]
  rw [hX] at x1 g1
  rw [hY] at x2 g2
  have HG : Hid (∀ c, ((c = 0 ∧ X - Y = 0) ∨ (c = -1 ∧ X - Y < 0) ∨ (c = 1 ∧ 0 < X - Y)) → c = (X - Y).sign) := fun c h => sign_of h
  clear hX hY
  clear hb1 hb2 hc1 hc2 hc p00 p01 p02 p03 p10 p11 p12 p13 hsz
  obtain ⟨p00, p01, p02, p03⟩ := id P0
  obtain ⟨p10, p11, p12, p13⟩ := id P1
  rcases (by omega : s1 < s2 ∨ s2 < s1 ∨ s1 = s2) with h | h | h
  · have HZ : Hid (-1 = (X - Y).sign) := HG.out _ (by omega)
    clear ha hb g1 g2 x1 x2 n1 n2 HG
    go_wp2
    go_ret
    exact ⟨by rw [HE.out, ← HZ.out]; rfl, hb0⟩
  · have HZ : Hid (1 = (X - Y).sign) := HG.out _ (by omega)
    have h' : ¬ s1 < s2 := by omega
    clear ha hb g1 g2 x1 x2 n1 n2 HG
    go_wp2
    go_ret
    exact ⟨by rw [HE.out, ← HZ.out]; rfl, hb0⟩
  · subst h
    rcases (by omega : s1 = -1 ∨ s1 = 0 ∨ s1 = 1) with rfl | rfl | rfl
    · go_wp2_with fail
      refine (cmpV _ hb ha (by omega) (by omega)).mono ?_
      rintro e w3 ⟨c, rfl, hc, j, rfl⟩
      have HZ : Hid (c = (X - Y).sign) := HG.out c (by omega)
      clear hc ha hb g1 g2 x1 x2 n1 n2 HG
      go_wp2
      go_ret
      exact ⟨by rw [HE.out, ← HZ.out]; rfl, belN hb0 j⟩
    · go_wp2_with fail
      refine (cmpV _ ha hb (by omega) (by omega)).mono ?_
      rintro e w3 ⟨c, rfl, hc, j, rfl⟩
      have HZ : Hid (c = (X - Y).sign) := HG.out c (by omega)
      clear hc ha hb g1 g2 x1 x2 n1 n2 HG
      go_wp2
      go_ret
      exact ⟨by rw [HE.out, ← HZ.out]; rfl, belN hb0 j⟩
    · go_wp2_with fail
      refine (cmpV _ ha hb (by omega) (by omega)).mono ?_
      rintro e w3 ⟨c, rfl, hc, j, rfl⟩
      have HZ : Hid (c = (X - Y).sign) := HG.out c (by omega)
      clear hc ha hb g1 g2 x1 x2 n1 n2 HG
      go_wp2
      go_ret
      exact ⟨by rw [HE.out, ← HZ.out]; rfl, belN hb0 j⟩
end Go.Proofs.YtfelogbfijomiaaDoor

namespace Go.Proofs.YtfelogbfijomiaaDoor
open Go.RowKit

/-- The decimal digits of a number, the least first. -/
def decsF : Nat → Nat → List Int
  | 0, _ => []
  | f + 1, v => if v = 0 then [] else ((v % 10 : Nat) : Int) :: decsF f (v / 10)
theorem decsF_eq (f : Nat) : ∀ (g v : Nat), v ≤ f → v ≤ g → decsF f v = decsF g v := by
  induction f with
  | zero =>
    intro g v h1 h2
    have h0 : v = 0 := by omega
    subst h0
    cases g <;> simp [decsF]
  | succ f ih =>
    intro g v h1 h2
    by_cases hv : v = 0
    · subst hv
      cases g <;> simp [decsF]
    · cases g with
      | zero => omega
      | succ g =>
        simp only [decsF, if_neg hv]
        rw [ih g (v / 10) (by omega) (by omega)]
/-- .. as many as there are. -/
def decs (v : Nat) : List Int := decsF v v
theorem decs_zero : decs 0 = [] := rfl
theorem decs_pos {v : Nat} (h : v ≠ 0) : decs v = ((v % 10 : Nat) : Int) :: decs (v / 10) := by
  obtain ⟨u, rfl⟩ : ∃ u, v = u + 1 := ⟨v - 1, by omega⟩
  unfold decs
  simp only [decsF, if_neg h]
  rw [decsF_eq u ((u + 1) / 10) ((u + 1) / 10) (by omega) (Nat.le_refl _)]
/-- So many of its digits, noughts at the end among them. -/
def padD : Nat → Nat → List Int
  | 0, _ => []
  | k + 1, v => ((v % 10 : Nat) : Int) :: padD k (v / 10)
theorem padD_len (k v : Nat) : (padD k v).length = k := by induction k generalizing v with | zero => rfl | succ k ih => simp [padD, ih]
theorem decs_split (k v : Nat) (h : v / 10 ^ k ≠ 0) : decs v = padD k v ++ decs (v / 10 ^ k) := by
  induction k generalizing v with
  | zero => simp [padD]
  | succ k ih =>
    have e : v / 10 ^ (k + 1) = v / 10 / 10 ^ k := by rw [Nat.pow_succ, Nat.mul_comm, Nat.div_div_eq_div_mul]
    rw [e] at h ⊢
    have hv : v ≠ 0 := by rintro rfl; simp at h
    rw [decs_pos hv, padD, ih _ h]; rfl
theorem padD_mod (k v : Nat) : padD k (v % 10 ^ k) = padD k v := by
  induction k generalizing v with
  | zero => rfl
  | succ k ih =>
    have e1 : v % 10 ^ (k + 1) % 10 = v % 10 := by rw [Nat.pow_succ]; exact Nat.mod_mul_left_mod v (10 ^ k) 10
    have e2 : v % 10 ^ (k + 1) / 10 = v / 10 % 10 ^ k := by rw [Nat.pow_succ, Nat.mul_comm]; exact Nat.mod_mul_right_div_self v 10 (10 ^ k)
    simp only [padD]; rw [e1, e2, ih]
theorem decs_le (k v : Nat) (h : v < 10 ^ k) : (decs v).length ≤ k := by
  induction k generalizing v with
  | zero => have : v = 0 := by simp at h; exact h
            subst this; simp [decs_zero]
  | succ k ih =>
    by_cases hv : v = 0
    · subst hv; simp [decs_zero]
    · rw [decs_pos hv]
      have := ih (v / 10) (by rw [Nat.pow_succ] at h; omega)
      simp only [List.length_cons]; omega
theorem pw_ten (L : Nat) : pw L ≤ ((10 ^ (20 * L) : Nat) : Int) := by
  induction L with
  | zero => decide
  | succ L ih =>
    have e : (10 : Nat) ^ (20 * (L + 1)) = 10 ^ (20 * L) * 100000000000000000000 := by rw [show 20 * (L + 1) = 20 * L + 20 from rfl, Nat.pow_add]
    rw [e, pw_succ, Int.natCast_mul]
    have := pw_pos L
    generalize ((10 ^ (20 * L) : Nat) : Int) = T at *
    generalize pw L = Q at *
    have e2 : ((100000000000000000000 : Nat) : Int) = 100000000000000000000 := rfl
    rw [e2]; omega
theorem decs_val {xs : List Int} (h : AllW xs) : (decs (val xs).toNat).length ≤ 20 * xs.length := by
  refine decs_le _ _ ?_
  have h1 := val_lt h
  have h2 := pw_ten xs.length
  generalize 10 ^ (20 * xs.length) = T at *
  generalize pw xs.length = Q at *
  have := val_nn h
  omega
theorem decs_bd (v : Nat) : ∀ d ∈ decs v, 0 ≤ d ∧ d ≤ 9 := by
  induction v using Nat.strongRecOn with
  | ind v ih =>
    by_cases hv : v = 0
    · subst hv; simp [decs_zero]
    · rw [decs_pos hv]
      intro d hd
      rcases List.mem_cons.1 hd with rfl | hd
      · omega
      · exact ih (v / 10) (by omega) d hd
theorem decs_nil {v : Nat} (h : decs v = []) : v = 0 := by
  by_cases hv : v = 0
  · exact hv
  · rw [decs_pos hv] at h; cases h
/-- What is still to come of a piece: k places are left of it, if it is told whole. -/
def restD (whole : Bool) (k p : Nat) : List Int := if whole = true then padD k p else decs p
theorem restD_end {whole : Bool} {k : Nat} (h : whole = false ∨ k = 0) : restD whole k 0 = [] := by
  unfold restD
  cases whole with
  | false => simp [decs_zero]
  | true => rcases h with h | h
            · cases h
            · subst h; rfl
theorem restD_next {whole : Bool} {k p : Nat} (hp : p < 10 ^ k) (h : p ≠ 0 ∨ (whole = true ∧ k ≠ 0)) : ∃ k', k = k' + 1 ∧ p / 10 < 10 ^ k' ∧ restD whole k p = ((p % 10 : Nat) : Int) :: restD whole k' (p / 10) := by
  have hk : k ≠ 0 := by
    rintro rfl
    simp at hp
    rcases h with h | h
    · exact h hp
    · exact h.2 rfl
  obtain ⟨k', rfl⟩ := Nat.exists_eq_succ_of_ne_zero hk
  refine ⟨k', rfl, by rw [Nat.pow_succ] at hp; omega, ?_⟩
  unfold restD
  cases whole with
  | true => rfl
  | false =>
    have : p ≠ 0 := by rcases h with h | h
                       · exact h
                       · cases h.1
    simp [decs_pos this]
/-- A piece of a number, and what is left of it. -/
theorem decs_piece (v : Nat) : decs v = restD (decide (v / 10 ^ 19 ≠ 0)) 19 (v % 10 ^ 19) ++ decs (v / 10 ^ 19) := by
  by_cases h : v / 10 ^ 19 = 0
  · have hl : v < 10 ^ 19 := (Nat.div_eq_zero_iff_lt (by decide)).1 h
    rw [h, decs_zero, List.append_nil, Nat.mod_eq_of_lt hl]
    simp [restD]
  · rw [decs_split 19 v h]
    have e := padD_mod 19 v
    unfold restD
    rw [if_pos (by simpa using h), e]
end Go.Proofs.YtfelogbfijomiaaDoor

namespace Go.Proofs.YtfelogbfijomiaaDoor
open Go.RowKit Go.Shelf

/-- A block of words (limbs). -/
def isWd : Obj → Bool
  | .cells _ t _ => t == 64
  | _ => false
/-- From one world to a later one: blocks are laid; of those that lay, only such are turned as p tells, from block B on. -/
structure Turns (p : Obj → Bool) (B : Nat) (W W' : World) : Prop where
  os : W'.os = W.os
  tape : W'.tape = W.tape
  output : W'.output = W.output
  size : W.heap.size ≤ W'.heap.size
  block : ∀ (k : Nat) (o : Obj), W.heap[k]? = some o → (k < B ∨ p o = false) → W'.heap[k]? = some o
theorem Turns.below {p : Obj → Bool} {B : Nat} {W W' : World} (h : Turns p B W W') {B' : Nat} (hB : B' ≤ B) (hs : B' ≤ W.heap.size) : Below B' W W' :=
  ⟨h.os, h.tape, h.output, h.size, fun k hk => by
    have : k < W.heap.size := by omega
    rw [h.block k _ (Array.getElem?_eq_getElem this) (.inl (by omega)), Array.getElem?_eq_getElem this]⟩
theorem Turns.of_below {p : Obj → Bool} {B : Nat} {W W' : World} (h : Below W.heap.size W W') : Turns p B W W' :=
  ⟨h.os, h.tape, h.output, h.size, fun k _ hk _ => (h.block k (Array.getElem?_eq_some_iff.1 hk).1).trans hk⟩
theorem Turns.of_off {p : Obj → Bool} {B g : Nat} {W W' : World} (h : Off g W W') (hg : B ≤ g) (hp : ∀ o, W.heap[g]? = some o → p o = true) : Turns p B W W' :=
  ⟨h.os, h.tape, h.output, by have := h.size; omega, fun k o hk hc => by
    by_cases e : k = g
    · subst e
      rcases hc with hc | hc
      · omega
      · rw [hp o hk] at hc; cases hc
    · exact (h.block k e).trans hk⟩
theorem Turns.imp {p q : Obj → Bool} {B B' : Nat} {W W' : World} (h : Turns p B W W') (hpq : ∀ o, p o = true → q o = true) (hB : B' ≤ B) : Turns q B' W W' :=
  ⟨h.os, h.tape, h.output, h.size, fun k o hk hc => h.block k o hk (by
    rcases hc with hc | hc
    · exact .inl (by omega)
    · right
      cases e : p o with
      | false => rfl
      | true => rw [hpq o e] at hc; cases hc)⟩
theorem Turns.putObj {p : Obj → Bool} {B l : Nat} {W : World} {o : Obj} (o' : Obj) (hl : W.heap[l]? = some o) (hp : p o = true) (hB : B ≤ l) : Turns p B W (W.putObj l o') :=
  ⟨rfl, rfl, rfl, by simp, fun k o2 hk hc => by
    by_cases e : k = l
    · subst e
      rw [hl] at hk; cases hk
      rcases hc with hc | hc
      · omega
      · rw [hp] at hc; cases hc
    · exact (World.putObj_heap_other e).trans hk⟩
theorem Turns.alloc (p : Obj → Bool) (B : Nat) (W : World) (o : Obj) : Turns p B W (W.alloc o) :=
  ⟨rfl, rfl, rfl, by simp, fun k o' hk _ => (Below.heap_alloc W o k (Array.getElem?_eq_some_iff.1 hk).1).trans hk⟩
/-- What the iterator's steps leave as it is. -/
def AbW {β : Type} (B : Nat) (J : β → World → Prop) : Prop := ∀ s W W', J s W → Turns isWd B W W' → J s W'
/-- What abides besides the turn of what is no cells. -/
def isMine (o : Obj) : Bool := isWd o || !o.isCells
def OwnW {β : Type} (B : Nat) (I : β → World → Prop) : Prop := ∀ s W W', I s W → Turns isMine B W W' → I s W'
/-- A round's word: words lie as they lay. -/
structure KeptW (W W' : World) : Prop where
  size : W.heap.size ≤ W'.heap.size
  same : ∀ (k : Nat) (o : Obj), W.heap[k]? = some o → isWd o = true → W'.heap[k]? = some o
theorem KeptW.refl (W : World) : KeptW W W := ⟨Nat.le_refl _, fun _ _ h _ => h⟩
theorem KeptW.trans {A B C : World} (h : KeptW A B) (k : KeptW B C) : KeptW A C := ⟨Nat.le_trans h.size k.size, fun i o hi ho => k.same i o (h.same i o hi ho) ho⟩
theorem KeptW.of_below {W W' : World} (h : Below W.heap.size W W') : KeptW W W' := ⟨h.size, fun k _ hk _ => (h.block k (Array.getElem?_eq_some_iff.1 hk).1).trans hk⟩
theorem isWd_cells {o : Obj} (h : isWd o = true) : o.isCells = true := by cases o <;> simp_all [isWd, Obj.isCells]
theorem KeptW.putObj {W : World} {l : Nat} {o : Obj} (o' : Obj) (h : W.heap[l]? = some o) (hc : isWd o = false) : KeptW W (W.putObj l o') := by
  refine ⟨by simp, fun k o2 hk ho => ?_⟩
  have e : k ≠ l := by
    rintro rfl
    rw [h] at hk; cases hk; rw [ho] at hc; cases hc
  rw [World.putObj_heap_other e]; exact hk
theorem Blk.wd {w : World} {g : Nat} {us : List Int} (h : Blk w g us) : ∀ o, w.heap[g]? = some o → isWd o = true := by
  intro o ho
  have : w.heap[g]? = _ := h
  rw [this] at ho; cases ho; simp [isWd]
theorem Blk.keptW {w w' : World} {g : Nat} {us : List Int} (h : Blk w g us) (k : KeptW w w') : Blk w' g us := k.same g _ h (h.wd _ h)
theorem OwnW.alloc {β : Type} {B : Nat} {I : β → World → Prop} (h : OwnW B I) {s : β} {W : World} (o : Obj) (hs : I s W) : I s (W.alloc o) := h s W _ hs (Turns.alloc _ _ _ _)
theorem OwnW.putObj {β : Type} {B : Nat} {I : β → World → Prop} (h : OwnW B I) {s : β} {W : World} {l : Nat} {o : Obj} (o' : Obj) (hs : I s W) (hB : B ≤ l) (hl : W.heap[l]? = some o) (ho : o.isCells = false) : I s (W.putObj l o') :=
  h s W _ hs (Turns.putObj o' hl (by simp [isMine, ho]) hB)
theorem OwnW.and {β : Type} {B : Nat} {I K : β → World → Prop} (h : OwnW B I) (k : OwnW B K) : OwnW B (fun s W => I s W ∧ K s W) := fun s W W' hs ht => ⟨h s W W' hs.1 ht, k s W W' hs.2 ht⟩
theorem ownW_below {β : Type} {B n : Nat} {w : World} (hn : n ≤ B) (hw : n ≤ w.heap.size) : OwnW B (fun (_ : β) W => Below n w W) :=
  fun _ _ _ hs ht => hs.trans (ht.below hn (Nat.le_trans hw hs.size))
theorem turned_keeps {B : Nat} {W W' : World} (h : Turns isWd B W W') {k : Nat} {o : Obj} (hk : W.heap[k]? = some o) (ho : isWd o = false) : W'.heap[k]? = some o := h.block k o hk (.inr ho)

/-- The contract of an iterator of digits that keeps words of its own between two rounds. -/
def SeqW (F : Fence) (P : Program) (g : Nat) (lb : Array Value) (S Sp : List Int → Prop) (N : Nat) (w : World) : Prop :=
  ∀ (n l : Nat) (J Jx : List Int → World → Prop) (W : World), Below w.heap.size w W → AbW W.heap.size J → AbW W.heap.size Jx →
    (∀ (m : Nat) pre x W1, J pre W1 → 0 ≤ x → x ≤ 9 → pre.length < N → YieldAt F m P l #[.int .i64 x] W1 fun e W' =>
      (e = .returned (.bool true) ∧ J (pre ++ [x]) W' ∧ KeptW W1 W') ∨ (e = .returned (.bool false) ∧ Jx (pre ++ [x]) W')) →
    J [] W →
    CallsIn F n P g (#[.func (.yield l) #[] #[]] ++ lb) W fun e W' => (∃ v, e = .returned v) ∧ ((∃ xs, S xs ∧ J xs W') ∨ (∃ pre, Sp pre ∧ Jx pre W'))
theorem SeqW.inRound {F : Fence} {P : Program} {g : Nat} {lb : Array Value} {S Sp : List Int → Prop} {N : Nat} {w : World} (l : Nat) (h : SeqW F P g lb S Sp N w) : SeqW (F.inRound l) P g lb S Sp N w := h

variable {F : Fence} {n : Nat} {P : Program}
theorem roomN {F : Fence} (hd : F.depth = none) (k : Nat) : F.room k := fun d h => by rw [hd] at h; cases h
theorem roundIn_any {F : Fence} (hd : F.depth = none) {m m' : Nat} {P : Program} {l : Nat} {f : FuncId} {tmps : Array Value} {assign body : Code} {w : World} {R : Ending → World → Prop}
    (h : RoundIn F m P l f tmps assign body w R) : RoundIn F m' P l f tmps assign body w R := ⟨h.1, fun c cs _ => h.2 c cs (roomN hd _)⟩
theorem yieldAt_any {F : Fence} (hd : F.depth = none) {m : Nat} (m' : Nat) {P : Program} {l : Nat} {args : Array Value} {W : World} {R : Ending → World → Prop} (h : YieldAt F m P l args W R) : YieldAt F m' P l args W R := by
  obtain ⟨fn, tmps, assign, body, hy, hR⟩ := h
  exact ⟨fn, tmps, assign, body, hy, roundIn_any hd hR⟩

/-- What a loop's body leaves behind it, by the way in which it is left; l: the loop's record, B: from where on what is no cells lies still. -/
def Left (B : Nat) (I : List Int → World → Prop) (Ix : Code → List Int → World → Prop) (xs : List Int) (W : World) : Exit → Act → World → Prop
  | .normal, _, W' => KeepsFrom B W W' ∧ KeptW W W' ∧ I xs W'
  | .ret, _, W' => KeepsFrom B W W' ∧ Ix .ret xs W'
  | .exit id, _, W' => KeepsFrom B W W' ∧ Ix (.exit id) xs W'
  | .goto t, _, W' => KeepsFrom B W W' ∧ Ix (.goto t) xs W'
  | _, _, _ => False

section loop
variable {g : Operand} {ps : Array Tmp} {assign body : Code} {a : Act} {gf : Nat} {lb : Array Value} {S Sp : List Int → Prop} {N B l dl : Nat} {w0 W1 : World} {fn : FuncId}
  {I : List Int → World → Prop} {Ix : Code → List Int → World → Prop} {a₁ : Int → Act}

/-- The record of the loop. -/
def recd (fn : FuncId) (tmps : Array Value) (ps : Array Tmp) (assign body : Code) (dl : Nat) (st : LoopState) (pe : Option Code) : Obj :=
  .loop { state := st, pending := pe, fn, tmps, params := ps, assign, body, defers := dl }

/-- The loop's rounds, the iterator going on between them with words of its own. -/
theorem rounds (hseq : SeqW F P gf lb S Sp N w0) (hfn : F.fn fn) (hps : ps.size = 1) (hw : Below w0.heap.size w0 W1) (hB : B ≤ l)
    (hl : W1.heap[l]? = some (recd fn a.tmps ps assign body dl .ready none)) (hI : OwnW l I) (hIx : ∀ c, OwnW l (Ix c)) (h0 : I [] W1)
    (hassign : ∀ (m : Nat) (x : Int) (W : World) (K : Act → World → Prop), K (a₁ x) W →
      assign.wpIn (F.inRound l) m P (Exit.then K (fun _ _ _ => False)) { tmps := (ps.zip #[Value.int .i64 x]).foldl (fun t (p, v) => t.setIfInBounds p v) a.tmps, defers := [] } W)
    (hbody : ∀ (m : Nat) (pre : List Int) (x : Int) (W : World), (∃ r, W.heap[l]? = some (.loop r)) → I pre W → 0 ≤ x → x ≤ 9 → pre.length < N → body.wpIn (F.inRound l) m P (Left B I Ix (pre ++ [x]) W) (a₁ x) W) :
    CallsIn F n P gf (#[.func (.yield l) #[] #[]] ++ lb) W1 fun e W2 => (∃ v, e = .returned v) ∧
      ((∃ xs, S xs ∧ I xs W2 ∧ W2.heap[l]? = some (recd fn a.tmps ps assign body dl .ready none)) ∨
       (∃ c pre, Sp pre ∧ Ix c pre W2 ∧ W2.heap[l]? = some (recd fn a.tmps ps assign body dl .done (some c)))) := by
  have hlt1 : l < W1.heap.size := (Array.getElem?_eq_some_iff.1 hl).1
  have mine : ∀ {A C : World}, Turns isWd W1.heap.size A C → Turns isMine l A C := fun t => t.imp (fun o ho => by simp [isMine, ho]) (by omega)
  have still : ∀ {A C : World} {st pe}, Turns isWd W1.heap.size A C → A.heap[l]? = some (recd fn a.tmps ps assign body dl st pe) → C.heap[l]? = some (recd fn a.tmps ps assign body dl st pe) :=
    fun t h => t.block l _ h (.inr rfl)
  refine (hseq n l (fun pre W => I pre W ∧ W.heap[l]? = some (recd fn a.tmps ps assign body dl .ready none))
    (fun pre W => ∃ c, Ix c pre W ∧ W.heap[l]? = some (recd fn a.tmps ps assign body dl .done (some c))) W1 hw
    (fun s A C h t => ⟨hI s A C h.1 (mine t), still t h.2⟩) (fun s A C ⟨c, h1, h2⟩ t => ⟨c, hIx c s A C h1 (mine t), still t h2⟩) ?_ ⟨h0, hl⟩).mono ?_
  · rintro m pre x W ⟨hi, hr⟩ x0 x9 hlen
    have busy : (W.putObj l (recd fn a.tmps ps assign body dl .busy none)).heap[l]? = some (recd fn a.tmps ps assign body dl .busy none) := World.putObj_heap_same (Array.getElem?_eq_some_iff.1 hr).1
    have hy := run_yield (P := P) (args := #[Value.int .i64 x]) hr (by simp [hps])
    refine ⟨fn, _, assign, body, hy, roundIn_of_wpIn hfn (hassign m x W _ ⟨_, run_beginRound hr rfl, ?_⟩)⟩
    have hk0 : KeptW W (W.putObj l (recd fn a.tmps ps assign body dl .busy none)) := KeptW.putObj _ hr rfl
    refine wpIn_mono (hbody m pre x (W.putObj l (recd fn a.tmps ps assign body dl .busy none)) ⟨_, busy⟩ (hI.putObj _ hi (Nat.le_refl _) hr rfl) x0 x9 hlen) ?_
    -- how the record lies behind the body, and behind the round
    have after : ∀ {W3 : World} (j : Option Code), KeepsFrom B (W.putObj l (recd fn a.tmps ps assign body dl .busy none)) W3 →
        W3.heap[l]? = some (recd fn a.tmps ps assign body dl .busy none) ∧
        (Instr.endRound l j).run P W3 = .ok (.bool j.isNone) (W3.putObj l (recd fn a.tmps ps assign body dl (if j.isNone then .ready else .done) j)) ∧
        (W3.putObj l (recd fn a.tmps ps assign body dl (if j.isNone then .ready else .done) j)).heap[l]? = some (recd fn a.tmps ps assign body dl (if j.isNone then .ready else .done) j) := by
      intro W3 j hk
      have h3 := hk.same l _ hB busy rfl
      exact ⟨h3, run_endRound j h3, World.putObj_heap_same (Array.getElem?_eq_some_iff.1 h3).1⟩
    intro e a3 W3 hp
    have away : ∀ c, KeepsFrom B (W.putObj l (recd fn a.tmps ps assign body dl .busy none)) W3 ∧ Ix c (pre ++ [x]) W3 →
        ∃ v w', (Instr.endRound l (some c)).run P W3 = .ok v w' ∧ ((Ending.returned v = .returned (.bool true) ∧ (I (pre ++ [x]) w' ∧ w'.heap[l]? = some (recd fn a.tmps ps assign body dl .ready none)) ∧ KeptW W w') ∨
          (Ending.returned v = .returned (.bool false) ∧ ∃ c, Ix c (pre ++ [x]) w' ∧ w'.heap[l]? = some (recd fn a.tmps ps assign body dl .done (some c)))) := by
      rintro c ⟨h1, h2⟩
      obtain ⟨p1, p2, p3⟩ := after (some c) h1
      exact ⟨_, _, p2, .inr ⟨rfl, c, (hIx c).putObj _ h2 (Nat.le_refl _) p1 rfl, p3⟩⟩
    cases e with
    | normal =>
      obtain ⟨h1, h2, h3⟩ := hp
      obtain ⟨p1, p2, p3⟩ := after none h1
      exact ⟨_, _, p2, .inl ⟨rfl, ⟨hI.putObj _ h3 (Nat.le_refl _) p1 rfl, p3⟩, (hk0.trans h2).trans (KeptW.putObj _ p1 rfl)⟩⟩
    | ret => exact away _ hp
    | exit id => exact away _ hp
    | goto t => exact away _ hp
    | panic ch => exact hp.elim
    | outgrown => exact hp.elim
  · rintro e W2 ⟨hv, ⟨xs, h1, h2, h3⟩ | ⟨pre, h1, c, h2, h3⟩⟩
    · exact ⟨hv, .inl ⟨xs, h1, h2, h3⟩⟩
    · exact ⟨hv, .inr ⟨c, pre, h1, h2, h3⟩⟩

set_option maxHeartbeats 100000 in
/-- A range over an iterator with words of its own, in no other's round. -/
theorem range_out {Q : Exit → Act → World → Prop} {w : World} (hro : F.round = none) (hd : F.depth = none) (hg : a.eval g = .func (.func gf) #[] lb) (hFg : F.fn gf) (eg : ∀ args w, (callFunc gf args).run P w = .ok (.enter gf args) w)
    (hseq : SeqW F P gf lb S Sp N w0) (hw : Below w0.heap.size w0 w) (hps : ps.size = 1)
    (I : List Int → World → Prop) (Ix : Code → List Int → World → Prop) (hI : OwnW w.heap.size I) (hIx : ∀ c, OwnW w.heap.size (Ix c)) (h0 : I [] w) (a₁ : Int → Act)
    (hassign : ∀ (l m : Nat) (x : Int) (W : World) (K : Act → World → Prop), K (a₁ x) W →
      assign.wpIn (F.inRound l) m P (Exit.then K (fun _ _ _ => False)) { tmps := (ps.zip #[Value.int .i64 x]).foldl (fun t (p, v) => t.setIfInBounds p v) a.tmps, defers := [] } W)
    (hbody : ∀ (l m : Nat) (pre : List Int) (x : Int) (W : World), (∃ r, W.heap[l]? = some (.loop r)) → w.heap.size ≤ l → I pre W → 0 ≤ x → x ≤ 9 → pre.length < N → body.wpIn (F.inRound l) m P (Left w.heap.size I Ix (pre ++ [x]) W) (a₁ x) W)
    (hdone : ∀ (D : Nat) (xs : List Int) (W : World), w.heap.size ≤ D → S xs → I xs W → W.heap[D]? = some (.deferred (some [])) → Q .normal { a with defers := { target := .collected D, args := #[] } :: a.defers } W)
    (hstop : ∀ (D : Nat) (c : Code) (pre : List Int) (W : World), w.heap.size ≤ D → Sp pre → Ix c pre W → W.heap[D]? = some (.deferred (some [])) → c.wpIn F n P Q { a with defers := { target := .collected D, args := #[] } :: a.defers } W) :
    (Code.rangeFunc g ps assign body).wpIn F n P Q a w := by
  refine wpIn_rangeFunc fun fn hfn => ?_
  obtain ⟨W1, hW1⟩ : ∃ W1, (w.alloc (.deferred (some []))).alloc (recd fn a.tmps ps assign body w.heap.size .ready none) = W1 := ⟨_, rfl⟩
  have hWd : W1.heap[w.heap.size]? = some (.deferred (some [])) := by
    rw [← hW1]; exact (Below.heap_alloc _ _ _ (by simp)).trans (World.alloc_heap_new w _)
  have hWl : W1.heap[w.heap.size + 1]? = some (recd fn a.tmps ps assign body w.heap.size .ready none) := by
    rw [← hW1]
    have := World.alloc_heap_new (w.alloc (.deferred (some []))) (recd fn a.tmps ps assign body w.heap.size .ready none)
    rwa [World.size_alloc] at this
  have up : ∀ {J : List Int → World → Prop}, OwnW w.heap.size J → OwnW (w.heap.size + 1) (fun pre W => J pre W ∧ W.heap[w.heap.size]? = some (.deferred (some []))) :=
    fun h s A C k t => ⟨h s A C k.1 (t.imp (fun _ ho => ho) (by omega)), t.block _ _ k.2 (.inl (by omega))⟩
  have hdef : ∀ {A C : World}, KeepsFrom w.heap.size A C → A.heap[w.heap.size]? = some (.deferred (some [])) → C.heap[w.heap.size]? = some (.deferred (some [])) := fun k h => k.same _ _ (Nat.le_refl _) h rfl
  have hWI : I [] W1 := by rw [← hW1]; exact hI.alloc _ (hI.alloc _ h0)
  have hWb : Below w0.heap.size w0 W1 := by
    rw [← hW1]; exact hw.trans ((((Below.refl _ w).alloc (Nat.le_refl _) _).alloc (by simp) _).mono hw.size)
  have hcall := rounds (a := a) (n := n - 1) (B := w.heap.size) (I := fun pre W => I pre W ∧ W.heap[w.heap.size]? = some (.deferred (some []))) (Ix := fun c pre W => Ix c pre W ∧ W.heap[w.heap.size]? = some (.deferred (some []))) (a₁ := a₁) hseq hfn hps
    hWb (by omega) hWl (up hI) (fun c => up (hIx c)) ⟨hWI, hWd⟩ (hassign _)
    (fun m pre x W hr hi x0 x9 hlen => wpIn_mono (hbody _ m pre x W hr (by omega) hi.1 x0 x9 hlen) (fun e a3 W3 hp => by
      cases e with
      | normal => exact ⟨hp.1, hp.2.1, hp.2.2, hdef hp.1 hi.2⟩
      | ret => exact ⟨hp.1, hp.2, hdef hp.1 hi.2⟩
      | exit id => exact ⟨hp.1, hp.2, hdef hp.1 hi.2⟩
      | goto t => exact ⟨hp.1, hp.2, hdef hp.1 hi.2⟩
      | panic ch => exact hp.elim
      | outgrown => exact hp.elim))
  refine ⟨w.heap.size + 1, [{ target := .collected w.heap.size, args := #[] }], W1, { target := .fn (.func gf) lb, args := #[.func (.yield (w.heap.size + 1)) #[] #[]] }, W1, gf, #[.func (.yield (w.heap.size + 1)) #[] #[]] ++ lb, W1, ?_, ?_, ?_, ?_, ?_, ?_⟩
  · rw [hro, ← hW1]; exact run_enterLoop_outer _ _ _ _ _
  · simp only [resolve, hg]
    simp [go_sem]
  · intro f' hf'
    simp [Target.leads] at hf'; subst hf'; exact hFg
  · simp [invoke, go_sem, eg]
  · intro h
    rw [hd] at h; cases h
  refine hcall.mono ?_
  rintro e W2 ⟨⟨v, rfl⟩, ⟨xs, hS, hi, hl⟩ | ⟨c, pre, hS, hi, hl⟩⟩
  · have h1 := run_endLoop (P := P) hl (by simp)
    exact ⟨none, _, h1, hdone _ xs _ (Nat.le_refl _) hS (hI.putObj _ hi.1 (by omega) hl rfl) ((World.putObj_heap_other (by omega)).trans hi.2)⟩
  · have h1 := run_endLoop (P := P) hl (by simp)
    exact ⟨some c, _, h1, hstop _ c pre _ (Nat.le_refl _) hS ((hIx c).putObj _ hi.1 (by omega) hl rfl) ((World.putObj_heap_other (by omega)).trans hi.2)⟩
end loop
end Go.Proofs.YtfelogbfijomiaaDoor

namespace Go.Proofs.YtfelogbfijomiaaDoor
open Go.RowKit Go.Shelf
attribute [local go_sem] Oper.semAt_some

set_option maxRecDepth 100000 in
set_option maxHeartbeats 1000000 in
/-- nat.tellPiece, over whatever loop body. -/
theorem tell_in {F : Fence} (hd : F.depth = none) (hro : F.round = none) (hf : F.fn 108) (l N : Nat) (J Jx : List Int → World → Prop)
    (hY : ∀ (m : Nat) pre x W1, J pre W1 → 0 ≤ x → x ≤ 9 → pre.length < N → YieldAt F m Tryd.prog l #[.int .i64 x] W1 fun e W' =>
      (e = .returned (.bool true) ∧ J (pre ++ [x]) W' ∧ KeptW W1 W') ∨ (e = .returned (.bool false) ∧ Jx (pre ++ [x]) W'))
    (n v : Nat) (whole : Bool) (hv : v < 10 ^ 19) (pre : List Int) (W : World) (hJ : J pre W) (hN : pre.length + (restD whole 19 v).length ≤ N) :
    CallsIn F n Tryd.prog 108 #[.int .u64 v, .bool whole, .func (.yield l) #[] #[]] W fun e W' =>
      (e = .returned (.bool true) ∧ J (pre ++ restD whole 19 v) W' ∧ KeptW W W') ∨ (e = .returned (.bool false) ∧ ∃ q, q <+: restD whole 19 v ∧ Jx (pre ++ q) W') := by
  have hdd : ∀ k : Nat, (F.depth.isSome = true → 1 ≤ k) := fun k h => by rw [hd] at h; cases h
  refine callsIn_of_wp Tryd.func108 rfl hf ?_ hro
  simp only [Tryd.ntmps108, List.size_toArray, List.length_cons, List.length_nil, Nat.reduceAdd, Nat.reduceSub, Array.replicate_succ, Array.replicate_zero, List.push_toArray, List.append_toArray, List.nil_append, List.cons_append]
  gi_wp2
  gi_loopw [0, 7] (fun p i wr => ∃ (k pn : Nat) (sent : List Int), p = .int .u64 pn ∧ i = .int .i64 (19 - (k : Int)) ∧ k ≤ 19 ∧ pn < 10 ^ k ∧ restD whole 19 v = sent ++ restD whole k pn ∧ J (pre ++ sent) wr ∧ KeptW W wr) (fun _ i _ => (19 - intOf i).toNat)
  case atStart => exact ⟨19, v, [], rfl, by go_num, Nat.le_refl _, hv, rfl, by simpa using hJ, KeptW.refl _⟩
  case round =>
    obtain ⟨k, pn, sent, rfl, rfl, hk, hpn, hsp, hJs, hks⟩ := hrel
    have hlt : (pn : Int) < 10000000000000000000 := by
      have : (10 : Nat) ^ k ≤ 10 ^ 19 := Nat.pow_le_pow_right (by decide) hk
      have e : (10 : Nat) ^ 19 = 10000000000000000000 := by decide
      omega
    by_cases hend : pn = 0 ∧ (whole = false ∨ k = 0)
    · obtain ⟨rfl, hend⟩ := hend
      rw [restD_end hend, List.append_nil] at hsp
      have HS : Hid (restD whole 19 v = sent) := hsp
      clear hsp hN hpn
      rcases hend with rfl | rfl
      · gi_wp2
        go_ret
        exact .inl ⟨rfl, by rw [HS.out]; exact hJs, hks⟩
      · cases whole with
        | false =>
          gi_wp2
          go_ret
          exact .inl ⟨rfl, by rw [HS.out]; exact hJs, hks⟩
        | true =>
          gi_wp2
          go_ret
          exact .inl ⟨rfl, by rw [HS.out]; exact hJs, hks⟩
    · obtain ⟨k', rfl, hpn', hnx⟩ := restD_next (whole := whole) hpn (by
        by_cases h0 : pn = 0
        · right
          refine ⟨?_, fun h => hend ⟨h0, .inr h⟩⟩
          cases whole with
          | true => rfl
          | false => exact absurd ⟨h0, .inl rfl⟩ hend
        · exact .inl h0)
      rw [hnx] at hsp
      have hlen : (pre ++ sent).length < N := by
        rw [hsp] at hN
        simp only [List.length_append, List.length_cons] at hN ⊢; omega
      obtain ⟨fn, tmps, assign, body, hy, hR⟩ := hY (n - 1) (pre ++ sent) ((pn % 10 : Nat) : Int) wr hJs (by omega) (by omega) hlen
      have hm : (pn : Int) % 10 = ((pn % 10 : Nat) : Int) := by omega
      have HQ : Hid ((pn : Int) / 10 = ((pn / 10 : Nat) : Int)) := by show (pn : Int) / 10 = _; omega
      have H1 : Hid (¬(pn = 0 ∧ (whole = false ∨ k' + 1 = 0))) := hend
      have HS : Hid (restD whole 19 v = sent ++ ((pn % 10 : Nat) : Int) :: restD whole k' (pn / 10)) := hsp
      have hx9 : ((pn % 10 : Nat) : Int) ≤ 9 := by omega
      generalize hX : ((pn % 10 : Nat) : Int) = X at *
      have HX : Hid (((pn % 10 : Nat) : Int) = X) := hX
      have fin : ∀ {e : Ending} {W3 : World}, (e = .returned (.bool true) ∧ J (pre ++ sent ++ [X]) W3 ∧ KeptW wr W3) ∨ (e = .returned (.bool false) ∧ Jx (pre ++ sent ++ [X]) W3) →
          (e = .returned (.bool true) ∧ J (pre ++ (sent ++ [X])) W3 ∧ KeptW W W3) ∨ (e = .returned (.bool false) ∧ ∃ q, q <+: restD whole 19 v ∧ Jx (pre ++ q) W3) := by
        rintro e W3 (⟨h1, h2, h3⟩ | ⟨h1, h2⟩)
        · exact .inl ⟨h1, by simpa using h2, hks.trans h3⟩
        · exact .inr ⟨h1, sent ++ [X], by rw [HS.out]; exact ⟨restD whole k' (pn / 10), by simp⟩, by simpa using h2⟩
      replace hR := hR.mono (fun e W3 h => fin h)
      clear hX hsp hN hnx hlen hJs hend hY hd fin
      have hi : (19 : Int) - ((k' + 1 : Nat) : Int) < 19 := by omega
      by_cases h0 : pn = 0
      · obtain rfl : whole = true := by
          cases whole with
          | true => rfl
          | false => exact absurd ⟨h0, .inl rfl⟩ H1.out
        subst h0
        obtain rfl : X = 0 := by have := HX.out; omega
        gi_wp2
        refine ⟨hdd _, ?_⟩
        refine hR.mono ?_
        rintro e W3 (⟨rfl, hJ3, hk3⟩ | ⟨rfl, hx3⟩)
        · gi_wp2
          go_roundw
          case rel => exact ⟨k', 0 / 10, sent ++ [0], by simp, by go_num, by omega, hpn', by rw [HS.out]; simp, hJ3, hk3⟩
          case measure => simp [intOf]; omega
        · gi_wp2
          go_ret
          exact .inr ⟨rfl, hx3⟩
      · have h0' : (0 : Int) < pn := by omega
        gi_wp2
        refine ⟨hdd _, ?_⟩
        refine hR.mono ?_
        rintro e W3 (⟨rfl, hJ3, hk3⟩ | ⟨rfl, hx3⟩)
        · gi_wp2
          go_roundw
          case rel => exact ⟨k', pn / 10, sent ++ [X], by rw [HQ.out], by go_num, by omega, hpn', by rw [HS.out]; simp, hJ3, hk3⟩
          case measure => simp [intOf]; omega
        · gi_wp2
          go_ret
          exact .inr ⟨rfl, hx3⟩
end Go.Proofs.YtfelogbfijomiaaDoor

namespace Go.Proofs.YtfelogbfijomiaaDoor
open Go.RowKit

set_option maxHeartbeats 1000000 in
theorem cutrow_any (g n cap : Nat) (us : List Int) (d : Int) (w : World) (hb : Row w g cap us) (hfit : n ≤ us.length) (hm : us.length ≤ 1099511627776) (hu : AllW us) (hd0 : 0 < d) (hd1 : d < 18446744073709551616) :
    Calls Tryd.prog 101 #[.slice (some ⟨g, 0, none⟩) n cap, .int .u64 d] w fun e w' => e = .returned (.int .u64 (cutR us n d n).2) ∧ Row w' g cap (cutR us n d n).1 ∧ Off g w w' := by
  go_enter Tryd.func101, Tryd.ntmps101
  go_wp2
  go_loopw [5, 6] (fun c i wr => ∃ j : Nat, j ≤ n ∧ i = .int .i64 ((n : Int) - 1 - j) ∧ c = .int .u64 (cutR us n d j).2 ∧ Row wr g cap (cutR us n d j).1 ∧ Off g w wr) (fun _ i _ => (intOf i + 1).toNat)
  case atStart => exact ⟨0, Nat.zero_le _, by go_num, rfl, hb, Off.refl _ _⟩
  case round =>
    obtain ⟨j, hj, rfl, rfl, hbr, hoff⟩ := hrel
    obtain ⟨ok1, ok2, ok3, ok4⟩ := cutR_ok n hu hd0 j
    by_cases hlt : j < n
    · have HN : Hid (cutR us n d (j + 1) = ((cutR us n d j).1.set (n - 1 - j) (((cutR us n d j).2 * 18446744073709551616 + lm (cutR us n d j).1 (n - 1 - j)) / d), ((cutR us n d j).2 * 18446744073709551616 + lm (cutR us n d j).1 (n - 1 - j)) % d)) := rfl
      generalize hU : (cutR us n d j).1 = U at *
      generalize hC : (cutR us n d j).2 = C at *
      clear hU hC
      obtain ⟨i, hi⟩ : ∃ i, n - 1 - j = i := ⟨_, rfl⟩
      rw [hi] at HN
      have hij : (n : Int) - 1 - j = i := by omega
      have hcg := hbr.cell (i := i) (by omega)
      have hfg := hbr.frozen i
      obtain ⟨a10, a11⟩ := ok1.at i
      obtain ⟨qa, qb⟩ := quo_lt ok3 ok4 a10 a11
      generalize hX : lm U i = X at *
      have HI : Hid ((n : Int) - 1 - j = i) := hij
      have hin : (i : Int) < n := by omega
      have hjn : (j : Int) + 1 + i = n := by omega
      rw [hij]
      clear hX hij hb hi
      go_wp2_with fail
      refine (div64_any C X d wr ok3 a10 a11 ok4 hd1).mono ?_
      rintro e w1 ⟨rfl, m, rfl⟩
      have hfg2 : (wr.drewN m).frozen? ⟨g, i, none⟩ = false := (hbr.drewN m).frozen i
      have HB := (hbr.drewN m).set i ((C * 18446744073709551616 + X) / d)
      have HO := (hoff.drewN m).set i (.int .u64 ((C * 18446744073709551616 + X) / d))
      generalize hq : (C * 18446744073709551616 + X) / d = q at *
      generalize hr : (C * 18446744073709551616 + X) % d = r at *
      generalize hw2 : wr.drewN m = W2 at *
      have hcg2 : W2.cell? ⟨g, i, none⟩ = some (.int .u64 X) := by rw [← hw2]; simpa using hcg
      clear hw2 hq hr hbr hoff hcg hfg
      go_wp2
      go_roundw
      case rel => exact ⟨j + 1, by omega, by go_num, by rw [HN.out], by rw [HN.out]; exact HB, HO⟩
      case measure => simp [intOf]
    · obtain rfl : j = n := by omega
      go_wp2
      go_ret
      exact ⟨rfl, hbr, hoff⟩

/-- What cut makes of a number: its quotient; the rest. -/
theorem cutR_low (us : List Int) (n : Nat) (d : Int) (j i : Nat) (h : i + j < n) : lm (cutR us n d j).1 i = lm us i := by
  induction j with
  | zero => rfl
  | succ j ih => simp only [cutR]; rw [lm_set, if_neg (by omega), ih (by omega)]
theorem div_mul (t d P : Int) : t / d * P * d + t % d * P = t * P := by
  have h : t = t / d * d + t % d := by rw [Int.mul_comm]; exact (Int.mul_ediv_add_emod t d).symm
  have e : t / d * P * d = t / d * d * P := Int.mul_right_comm _ _ _
  rw [e, ← Int.add_mul, ← h]
theorem cutR_val {us : List Int} {d : Int} (n : Nat) (hu : AllW us) (hd : 0 < d) (hn : n ≤ us.length) (j : Nat) (hj : j ≤ n) :
    (vS (cutR us n d j).1 n - vS us (n - j)) * d + (cutR us n d j).2 * pw (n - j) = vS us n - vS us (n - j) := by
  induction j with
  | zero => simp [cutR]
  | succ j ih =>
    have ih := ih (by omega)
    obtain ⟨h1, h2, h3, h4⟩ := cutR_ok (us := us) n hu hd j
    have hl := cutR_low us n d j (n - 1 - j) (by omega)
    simp only [cutR]
    generalize (cutR us n d j).1 = U at *
    generalize (cutR us n d j).2 = C at *
    rw [vS_set _ (by omega) (by omega), hl]
    obtain ⟨m, hm⟩ : ∃ m, n - j = m + 1 := ⟨n - j - 1, by omega⟩
    have em : n - (j + 1) = m := by omega
    have em2 : n - 1 - j = m := by omega
    rw [hm] at ih
    rw [em, em2]
    simp only [vS] at ih
    rw [pw_succ] at ih
    have e1 := div_mul (C * 18446744073709551616 + lm us m) d (pw m)
    rw [Int.add_mul (C * 18446744073709551616)] at e1
    have e2 : C * (pw m * 18446744073709551616) = C * 18446744073709551616 * pw m := by rw [Int.mul_comm (pw m), Int.mul_assoc]
    rw [e2] at ih
    have e3 : (vS U n + ((C * 18446744073709551616 + lm us m) / d - lm us m) * pw m - vS us m) * d = (vS U n - (vS us m + lm us m * pw m)) * d + (C * 18446744073709551616 + lm us m) / d * pw m * d := by
      rw [← Int.add_mul]
      congr 1
      rw [Int.sub_mul]
      omega
    rw [e3]
    generalize (vS U n - (vS us m + lm us m * pw m)) * d = A at *
    omega
theorem cutR_end {us : List Int} {d : Int} (hu : AllW us) (hd : 0 < d) : AllW (cutR us us.length d us.length).1 ∧ (cutR us us.length d us.length).1.length = us.length ∧ val (cutR us us.length d us.length).1 = val us / d ∧ (cutR us us.length d us.length).2 = val us % d := by
  obtain ⟨h1, h2, h3, h4⟩ := cutR_ok (us := us) us.length hu hd us.length
  have hv := cutR_val us.length hu hd (Nat.le_refl _) us.length (Nat.le_refl _)
  rw [Nat.sub_self, pw_zero] at hv
  simp only [vS] at hv
  have e1 : vS (cutR us us.length d us.length).1 us.length = val (cutR us us.length d us.length).1 := vS_long (by omega)
  have e2 : vS us us.length = val us := rfl
  rw [e1, e2] at hv
  obtain ⟨u1, u2⟩ := div_unique (x := val us) (y := d) (q := val (cutR us us.length d us.length).1) (r := (cutR us us.length d us.length).2) (by simp at hv; omega) h3 h4
  exact ⟨h1, h2, u1.symm, u2.symm⟩
end Go.Proofs.YtfelogbfijomiaaDoor

namespace Go.Proofs.YtfelogbfijomiaaDoor
open Go.RowKit Go.Shelf
attribute [local go_sem] Oper.semAt_some

/-- What the first limbs of a block tell, read off the world: for a loop's measure. -/
def cellI (w : World) (g i : Nat) : Int := match w.cell? ⟨g, i, none⟩ with | some (.int _ z) => z | _ => 0
def vC (w : World) (g : Nat) : Nat → Int
  | 0 => 0
  | n + 1 => vC w g n + cellI w g n * pw n
theorem vC_blk {w : World} {g : Nat} {us : List Int} (h : Blk w g us) (n : Nat) (hn : n ≤ us.length) : vC w g n = vS us n := by
  induction n with
  | zero => rfl
  | succ n ih =>
    have e : cellI w g n = lm us n := by unfold cellI; rw [h.cell (by omega)]
    simp only [vC, vS]; rw [ih (by omega), e]
def leftW (wr : World) (r : Value) : Nat := match r with | .slice (some p) n _ => (vC wr p.block n).toNat | _ => 0
theorem leftW_blk {w : World} {g : Nat} {us : List Int} (h : Blk w g us) (n cap : Nat) (hn : n ≤ us.length) : leftW w (.slice (some ⟨g, 0, none⟩) n cap) = (vS us n).toNat := by
  show (vC w g n).toNat = _
  rw [vC_blk h n hn]

/-- One piece cut off the first n limbs: the piece, and what is left. -/
theorem cut_piece {us : List Int} (n : Nat) (hu : AllW us) (hn : n ≤ us.length) :
    (cutR us n 10000000000000000000 n).2.toNat = (vS us n).toNat % 10 ^ 19 ∧ (vS (cutR us n 10000000000000000000 n).1 n).toNat = (vS us n).toNat / 10 ^ 19 ∧ 0 ≤ (cutR us n 10000000000000000000 n).2 ∧ (cutR us n 10000000000000000000 n).2 < 10000000000000000000 := by
  have h := cutR_val (d := 10000000000000000000) n hu (by decide) hn n (Nat.le_refl _)
  obtain ⟨h1, h2, h3, h4⟩ := cutR_ok (us := us) n (d := 10000000000000000000) hu (by decide) n
  rw [Nat.sub_self] at h
  simp only [vS, pw_zero] at h
  have v0 := (vS_nn hu n).1
  have v1 := (vS_nn h1 n).1
  generalize (cutR us n 10000000000000000000 n).1 = U at *
  generalize (cutR us n 10000000000000000000 n).2 = C at *
  generalize vS U n = q at *
  generalize vS us n = v at *
  have e : (10 : Nat) ^ 19 = 10000000000000000000 := by decide
  rw [e]
  omega

set_option maxRecDepth 100000 in
set_option maxHeartbeats 1000000 in
/-- The function that nat.Digits answers, over whatever loop body. -/
theorem digits1_in (l : Nat) (J Jx : List Int → World → Prop) (Bx : Nat) (a : Option Addr) (n c : Nat) (xs : List Int) (W : World) (hJ : AbW W.heap.size J)
    (hY : ∀ (m : Nat) pre x W1, J pre W1 → 0 ≤ x → x ≤ 9 → pre.length < (decs (val xs).toNat).length → YieldAt Fence.wide m Tryd.prog l #[.int .i64 x] W1 fun e W' =>
      (e = .returned (.bool true) ∧ J (pre ++ [x]) W' ∧ KeptW W1 W') ∨ (e = .returned (.bool false) ∧ Jx (pre ++ [x]) W'))
    (hbox : W.cell? ⟨Bx, 0, none⟩ = some (.slice a n c)) (hn : n = xs.length) (hl : n ≤ c) (hm : n ≤ 1000000000000) (hr : Reads W a xs) (hx : AllW xs) (h0 : J [] W) (k : Nat) :
    CallsIn Fence.wide k Tryd.prog 107 #[.func (.yield l) #[] #[], .pointer (some ⟨Bx, 0, none⟩)] W fun e W' => (∃ v, e = .returned v) ∧
      ((∃ ys, ys = decs (val xs).toNat ∧ J ys W') ∨ (∃ pre, pre <+: decs (val xs).toNat ∧ Jx pre W')) := by
  have Hn : Hid (n = xs.length) := hn
  have ta : tlen xs ≤ xs.length := tl_le _ _
  have hnorm := norm_any a n c xs W hn hl (by omega) hr
  have HL : Hid ((trimL xs).length = tlen xs) := length_trimL xs
  have hv0 : vS (trimL xs) (tlen xs) = val xs := by rw [← val_trimL xs, ← HL.out]; exact vS_long (Nat.le_refl _)
  have HV : Hid (vS (trimL xs) (tlen xs) = val xs) := hv0
  have hT : tlen xs ≤ 1000000000000 := by omega
  have HZ : Hid (tlen xs = 0 ↔ vS (trimL xs) (tlen xs) = 0) := by show _ ↔ _; rw [hv0]; exact tlen_zero hx
  have haw := hx.trim
  generalize hU : trimL xs = us0 at *
  generalize hT0 : tlen xs = t0 at *
  generalize hD : decs (val xs).toNat = D at *
  have HD : Hid (decs (val xs).toNat = D) := hD
  clear hn hU hT0 hD hv0 ta
  refine callsIn_of_wp Tryd.func107 rfl trivial ?_ rfl
  simp only [Tryd.ntmps107, List.size_toArray, List.length_cons, List.length_nil, Nat.reduceAdd, Nat.reduceSub, Array.replicate_succ, Array.replicate_zero, List.push_toArray, List.append_toArray, List.nil_append, List.cons_append]
  gi_wp2
  refine ⟨trivial, fun h => (by cases h), ?_⟩
  refine (callsIn_wide.2 hnorm).mono ?_
  rintro e W1 ⟨g, rfl, hg, hB1, hbel⟩
  have hJ1 : J [] W1 := hJ [] W W1 h0 (Turns.of_below hbel)
  clear hnorm hbox hr hbel h0 hx
  gi_wp2
  gi_loopw [3] (fun r wr => ∃ (t : Nat) (us pre : List Int), r = .slice (some ⟨g, 0, none⟩) t t0 ∧ t ≤ t0 ∧ us.length = t0 ∧ AllW us ∧ Blk wr g us ∧ (t = 0 ↔ vS us t = 0) ∧ D = pre ++ decs (vS us t).toNat ∧ J pre wr) (fun r wr => leftW wr r)
  case atStart =>
    refine ⟨t0, us0, [], rfl, Nat.le_refl _, HL.out, haw, hB1, ?_, by rw [HV.out, HD.out]; rfl, hJ1⟩
    exact HZ.out
  case round =>
    obtain ⟨t, us, pre, rfl, ht, hul, hau, hB, htz, hdd, hJs⟩ := hrel
    by_cases h0 : t = 0
    · have hv : vS us t = 0 := htz.1 h0
      rw [hv] at hdd
      subst h0
      have HDD : Hid (D = pre) := by show D = pre; rw [hdd]; simp [decs_zero]
      clear hdd hv
      gi_wp2
      go_end0
      exact ⟨⟨_, rfl⟩, .inl (by rw [HDD.out]; exact hJs)⟩
    · have hV : vS us t ≠ 0 := fun h => h0 (htz.2 h)
      obtain ⟨e1, e2, e3, e4⟩ := cut_piece t hau (by omega)
      obtain ⟨o1, o2, -, -⟩ := cutR_ok (us := us) t (d := 10000000000000000000) hau (by decide) t
      have hcut := cut_any g t t0 us 10000000000000000000 wr hB (by omega) (by omega) hau (by decide) (by decide)
      have v0 := (vS_nn hau t).1
      have v1 := (vS_nn o1 t).1
      generalize (cutR us t 10000000000000000000 t).1 = U at *
      generalize (cutR us t 10000000000000000000 t).2 = C at *
      obtain ⟨p, rfl⟩ : ∃ p : Nat, C = p := ⟨C.toNat, by omega⟩
      rw [Int.toNat_natCast] at e1
      have hp := decs_piece (vS us t).toNat
      rw [← e1, ← e2] at hp
      have hq : (vS U t).toNat < (vS us t).toNat := by rw [e2]; exact Nat.div_lt_self (by omega) (by decide)
      have HM : Hid ((vS U t).toNat < (vS us t).toNat) := hq
      have HP : Hid (D = pre ++ (restD (decide ((vS U t).toNat ≠ 0)) 19 p ++ decs (vS U t).toNat)) := by show D = _; rw [hdd, hp]
      have HK : Hid ((vS us t).toNat = leftW wr (.slice (some ⟨g, 0, none⟩) t t0)) := by show _ = _; rw [leftW_blk hB t t0 (by omega)]
      have hpl : p < 10 ^ 19 := by rw [e1]; exact Nat.mod_lt _ (by decide)
      -- what trim leaves
      have tk : ∀ j, j ≤ t → vS (U.take t) j = vS U j := fun j hj => vS_congr (fun i hi => lm_take (by omega))
      have tl1 : (U.take t).length = t := by rw [List.length_take]; omega
      have tv : val (U.take t) = vS U t := by rw [← vS_long (us := U.take t) (n := t) (by omega), tk t (Nat.le_refl _)]
      have tn : tlen (U.take t) ≤ t := by have := tl_le (U.take t) (U.take t).length; unfold tlen; omega
      have te : vS U (tlen (U.take t)) = vS U t := by rw [← tk _ tn, vS_trim, tv]
      have tz : tlen (U.take t) = 0 ↔ vS U t = 0 := by rw [tlen_zero (o1.take t), tv]
      have TL1 : Hid (t = (U.take t).length) := tl1.symm
      generalize hT' : tlen (U.take t) = t' at *
      have HT : Hid (tlen (U.take t) = t') := hT'
      have TE : Hid (vS U t' = vS U t) := te
      have TZ : Hid (t' = 0 ↔ vS U t = 0) := tz
      clear hT' hp hdd e1 e2 e3 e4 hV tk tl1 tv hq htz te tz
      have ht0 : (0 : Int) < t := by omega
      have tt : (0 : Int) < t' ∨ t' = 0 := by omega
      have HUL : Hid (U.length = t0) := by show _ = _; omega
      clear hul o2
      gi_wp2
      refine ⟨trivial, fun h => (by cases h), ?_⟩
      refine (callsIn_wide.2 hcut).mono ?_
      rintro e w1 ⟨rfl, hB2, hoff⟩
      have hJ1' : J pre w1 := hJ pre wr w1 hJs (Turns.of_off hoff hg hB.wd)
      have htr := trim_any (some ⟨g, 0, none⟩) t t0 (U.take t) w1 TL1.out ht (by omega) (hB2.reads t)
      rw [HT.out] at htr
      clear hcut hJs hB hoff hJ1
      gi_wp2
      refine ⟨trivial, fun h => (by cases h), ?_⟩
      refine (callsIn_wide.2 htr).mono ?_
      rintro e w1' ⟨rfl, rfl⟩
      clear htr
      have hb : decide ((vS U t).toNat ≠ 0) = decide (0 < t') := by
        rcases tt with tt | tt
        · have h1 := mt TZ.out.2 (by omega)
          rw [decide_eq_true (show 0 < t' by omega)]
          simp only [decide_eq_true_eq]; omega
        · have h1 := TZ.out.1 tt
          rw [decide_eq_false (show ¬ 0 < t' by omega)]
          simp only [decide_eq_false_iff_not]; omega
      have HPD : D = pre ++ restD (decide (0 < t')) 19 p ++ decs (vS U t').toNat := by rw [TE.out, List.append_assoc, ← hb]; exact HP.out
      have HNB : pre.length + (restD (decide (0 < t')) 19 p).length ≤ D.length := by rw [HPD]; simp only [List.length_append]; omega
      have HPX : Hid (D = pre ++ restD (decide (0 < t')) 19 p ++ decs (vS U t').toNat) := HPD
      have HNX : Hid (pre.length + (restD (decide (0 < t')) 19 p).length ≤ D.length) := HNB
      have TN : Hid (t' ≤ t) := tn
      clear HPD HNB hb tt tn
      gi_wp2
      refine ⟨trivial, fun h => (by cases h), ?_⟩
      refine (tell_in rfl rfl trivial l D.length J Jx hY (k - 1) p (decide (0 < t')) hpl pre w1 hJ1' HNX.out).mono ?_
      rintro e W3 (⟨rfl, hJ3, hk3⟩ | ⟨rfl, q, hq3, hx3⟩)
      · have hB3 := hB2.keptW hk3
        gi_wp2
        go_roundw
        case rel => exact ⟨t', U, pre ++ restD (decide (0 < t')) 19 p, rfl, by have := TN.out; omega, HUL.out, o1, hB3, by rw [TE.out]; exact TZ.out, HPX.out, hJ3⟩
        case measure => rw [leftW_blk hB3 _ t0 (by have := HUL.out; have := TN.out; omega), ← HK.out, TE.out]; exact HM.out
      · gi_wp2
        refine bodyPost_ret (results_none rfl _ _ _) rfl ?_
        exact ⟨⟨_, rfl⟩, .inr ⟨pre ++ q, by rw [HPX.out, List.append_assoc]; exact (List.prefix_append_right_inj pre).2 (hq3.trans (List.prefix_append _ _)), hx3⟩⟩
end Go.Proofs.YtfelogbfijomiaaDoor

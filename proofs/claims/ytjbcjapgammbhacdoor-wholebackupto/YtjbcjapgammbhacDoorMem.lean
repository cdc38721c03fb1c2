import Derived.Test.YtjbcjapgammbhacDoorBase
import Derived.Laws.CopyOwn
import Derived.Laws.Externs
import Derived.Shelf.Spec.BitsCarry
import Derived.Laws.OwnMore
namespace Go.Proofs.YtjbcjapgammbhacDoor
open Go.RowKit

/-- Block g holds the words us, all of it. -/
def Blk (w : World) (g : Nat) (us : List Int) : Prop := w.heap[g]? = some (.cells (us.map (Value.int .u64)).toArray 50 (0, 0))
/-- w' is w but for block g. -/
structure Off (g : Nat) (w w' : World) : Prop where
  os : w'.os = w.os
  tape : w'.tape = w.tape
  output : w'.output = w.output
  size : w'.heap.size = w.heap.size
  block : ∀ k, k ≠ g → w'.heap[k]? = w.heap[k]?

theorem lm_lt {us : List Int} {i : Nat} (h : i < us.length) : us[i]? = some (lm us i) := by simp [lm, List.getElem?_eq_getElem h]
theorem lm_ge {us : List Int} {i : Nat} (h : us.length ≤ i) : lm us i = 0 := by simp [lm, List.getElem?_eq_none h]
theorem lm_set (us : List Int) (i j : Nat) (z : Int) : lm (us.set i z) j = if i = j ∧ j < us.length then z else lm us j := by
  unfold lm
  simp only [List.getD_eq_getElem?_getD, List.getElem?_set]
  by_cases h : i = j
  · subst h
    by_cases h2 : i < us.length <;> simp [h2]
  · simp [h]
theorem lm_take {us : List Int} {n i : Nat} (h : i < n) : lm (us.take n) i = lm us i := by simp [lm, List.getElem?_take_of_lt h]
theorem lm_append_left {us vs : List Int} {i : Nat} (h : i < us.length) : lm (us ++ vs) i = lm us i := by simp [lm, List.getElem?_append_left h]
theorem lm_append_right {us vs : List Int} {i : Nat} (h : us.length ≤ i) : lm (us ++ vs) i = lm vs (i - us.length) := by simp [lm, List.getElem?_append_right h]
theorem lm_drop (us : List Int) (n i : Nat) : lm (us.drop n) i = lm us (n + i) := by simp [lm]
theorem lm_replicate (n i : Nat) : lm (List.replicate n 0) i = 0 := by
  by_cases h : i < n <;> simp [lm, h]

theorem Blk.cell {w : World} {g : Nat} {us : List Int} (h : Blk w g us) {i : Nat} (hi : i < us.length) : w.cell? ⟨g, i, none⟩ = some (.int .u64 (lm us i)) := by
  unfold Blk at h
  simp [World.cell?, h, lm_lt hi]
theorem Blk.frozen {w : World} {g : Nat} {us : List Int} (h : Blk w g us) (i : Nat) : w.frozen? ⟨g, i, none⟩ = false := by
  unfold Blk at h
  simp [World.frozen?, h]
theorem Blk.lt {w : World} {g : Nat} {us : List Int} (h : Blk w g us) : g < w.heap.size := (Array.getElem?_eq_some_iff.1 h).1
theorem Blk.set {w : World} {g : Nat} {us : List Int} (h : Blk w g us) (i : Nat) (z : Int) : Blk (w.setCell ⟨g, i, none⟩ (.int .u64 z)) g (us.set i z) := by
  unfold Blk at *
  simp [World.setCell, Array.getElem?_modify, h, List.map_set]
theorem Blk.drew {w : World} {g : Nat} {us : List Int} (h : Blk w g us) : Blk w.drew g us := h
theorem Blk.drewN {w : World} {g : Nat} {us : List Int} (h : Blk w g us) (n : Nat) : Blk (w.drewN n) g us := h
theorem Blk.alloc {w : World} {g : Nat} {us : List Int} (h : Blk w g us) (o : Obj) : Blk (w.alloc o) g us := by
  unfold Blk; rw [Below.heap_alloc _ _ _ h.lt]; exact h
theorem Blk.off {w w' : World} {g k : Nat} {us : List Int} (h : Blk w g us) (ho : Off k w w') (hk : g ≠ k) : Blk w' g us := by
  unfold Blk; rw [ho.block g hk]; exact h
theorem Blk.below {w w' : World} {g B : Nat} {us : List Int} (h : Blk w g us) (ho : Below B w w') (hk : g < B) : Blk w' g us := by
  unfold Blk; rw [ho.block g hk]; exact h

theorem Off.refl (g : Nat) (w : World) : Off g w w := ⟨rfl, rfl, rfl, rfl, fun _ _ => rfl⟩
theorem Off.trans {g : Nat} {a b c : World} (h : Off g a b) (k : Off g b c) : Off g a c :=
  ⟨k.os.trans h.os, k.tape.trans h.tape, k.output.trans h.output, k.size.trans h.size, fun i hi => (k.block i hi).trans (h.block i hi)⟩
theorem Off.set {g : Nat} {a w : World} (h : Off g a w) (i : Nat) (u : Value) : Off g a (w.setCell ⟨g, i, none⟩ u) :=
  h.trans ⟨rfl, rfl, rfl, by simp [World.setCell], fun k hk => Below.heap_setCell _ _ _ _ (by simpa using hk)⟩
theorem Off.drew {g : Nat} {a w : World} (h : Off g a w) : Off g a w.drew := h.trans ⟨rfl, rfl, rfl, rfl, fun _ _ => rfl⟩
theorem Off.drewN {g : Nat} {a w : World} (h : Off g a w) (n : Nat) : Off g a (w.drewN n) := h.trans ⟨rfl, rfl, rfl, rfl, fun _ _ => rfl⟩
theorem Off.below {g B : Nat} {w w' : World} (h : Off g w w') (hB : B ≤ g) : Below B w w' := ⟨h.os, h.tape, h.output, by have := h.size; omega, fun k hk => h.block k (by omega)⟩
theorem Off.cell {g : Nat} {w w' : World} (h : Off g w w') {p : Addr} (hp : p.block ≠ g) : w'.cell? p = w.cell? p := World.cell?_of_block (w := w) (h.block p.block hp)
theorem Off.frozen {g : Nat} {w w' : World} (h : Off g w w') {p : Addr} (hp : p.block ≠ g) : w'.frozen? p = w.frozen? p := World.frozen?_of_block (w := w) (h.block p.block hp)
theorem belN {B : Nat} {a w : World} (h : Below B a w) (n : Nat) : Below B a (w.drewN n) := ⟨h.os, h.tape, h.output, h.size, h.block⟩

/-- The cells that a slice is read from lie in blocks other than g. -/
def Away (a : Option Addr) (g : Nat) : Prop := ∀ p, a = some p → p.block ≠ g
theorem Reads.off {w w' : World} {a : Option Addr} {xs : List Int} {g : Nat} (h : Reads w a xs) (ho : Off g w w') (ha : Away a g) : Reads w' a xs := by
  rcases h with h | ⟨b, o, h, hc⟩
  · exact .inl h
  · exact .inr ⟨b, o, h, fun i hi => by rw [ho.cell (p := ⟨b, o + i, none⟩) (by exact ha ⟨b, o, none⟩ h)]; exact hc i hi⟩
theorem Reads.below {w w' : World} {a : Option Addr} {xs : List Int} (h : Reads w a xs) (ho : Below w.heap.size w w') : Reads w' a xs := by
  rcases h with h | ⟨b, o, h, hc⟩
  · exact .inl h
  · refine .inr ⟨b, o, h, fun i hi => ?_⟩
    have := World.block_lt_of_cell? _ _ (hc i hi)
    rw [ho.cell (by simpa using this)]
    exact hc i hi
theorem Reads.lt {w : World} {a : Option Addr} {xs : List Int} (h : Reads w a xs) (hx : xs ≠ []) : ∀ p, a = some p → p.block < w.heap.size := by
  rcases h with h | ⟨b, o, h, hc⟩
  · exact absurd h hx
  · intro p hp
    have hl : 0 < xs.length := List.length_pos_iff.2 hx
    have := World.block_lt_of_cell? _ _ (hc 0 hl)
    rw [h] at hp
    cases hp
    simpa using this
theorem Reads.take {w : World} {a : Option Addr} {xs : List Int} (h : Reads w a xs) (n : Nat) : Reads w a (xs.take n) := by
  rcases h with h | ⟨b, o, h, hc⟩
  · exact .inl (by simp [h])
  · refine .inr ⟨b, o, h, fun i hi => ?_⟩
    simp only [List.length_take] at hi
    rw [lm_take (by omega)]
    exact hc i (by omega)
theorem Blk.reads {w : World} {g : Nat} {us : List Int} (h : Blk w g us) (n : Nat) : Reads w (some ⟨g, 0, none⟩) (us.take n) := by
  refine .inr ⟨g, 0, rfl, fun i hi => ?_⟩
  simp only [List.length_take] at hi
  rw [lm_take (by omega), Nat.zero_add]
  exact h.cell (by omega)

/-- A slice that lies in memory of its own, from block B on: its limbs xs. -/
def Own (w : World) (B : Nat) (a : Option Addr) (cap : Nat) (xs : List Int) : Prop :=
  (a = none ∧ cap = 0 ∧ xs = []) ∨ ∃ g us, a = some ⟨g, 0, none⟩ ∧ B ≤ g ∧ Blk w g us ∧ us.length = cap ∧ xs.length ≤ cap ∧ us.take xs.length = xs
theorem Own.reads {w : World} {B : Nat} {a : Option Addr} {cap : Nat} {xs : List Int} (h : Own w B a cap xs) : Reads w a xs := by
  rcases h with ⟨_, _, h⟩ | ⟨g, us, rfl, _, hb, _, _, ht⟩
  · exact .inl h
  · rw [← ht]; exact hb.reads _
theorem Own.le {w : World} {B : Nat} {a : Option Addr} {cap : Nat} {xs : List Int} (h : Own w B a cap xs) : xs.length ≤ cap := by
  rcases h with ⟨_, _, h⟩ | ⟨g, us, rfl, _, hb, _, hl, _⟩
  · simp [h]
  · exact hl
theorem Own.below {w w' : World} {B : Nat} {a : Option Addr} {cap : Nat} {xs : List Int} (h : Own w B a cap xs) (hb : Below w.heap.size w w') : Own w' B a cap xs := by
  rcases h with h | ⟨g, us, rfl, h1, h2, h3⟩
  · exact .inl h
  · exact .inr ⟨g, us, rfl, h1, h2.below hb h2.lt, h3⟩
theorem Own.mono {w : World} {B B' : Nat} {a : Option Addr} {cap : Nat} {xs : List Int} (h : Own w B a cap xs) (hB : B' ≤ B) : Own w B' a cap xs := by
  rcases h with h | ⟨g, us, rfl, h1, h2, h3⟩
  · exact .inl h
  · exact .inr ⟨g, us, rfl, by omega, h2, h3⟩
theorem Own.of_blk {w : World} {B g : Nat} {us : List Int} (h : Blk w g us) (hB : B ≤ g) {n : Nat} (hn : n ≤ us.length) : Own w B (some ⟨g, 0, none⟩) us.length (us.take n) :=
  .inr ⟨g, us, rfl, hB, h, rfl, by simp; omega, by simp⟩

theorem Tryd.infoU64 : (Tryd.prog.info? 50).map (fun i => (i.zero, i.size, i.bytes)) = some (some (.int .u64 0), 1, 8) := by kernel_rfl
theorem Tryd.sizeU64 : (Tryd.prog.info? 50).map (·.size) = some 1 := by kernel_rfl

/-- 'make(api.Nat, n)' at a plain region. -/
theorem wpList_makeB (w : World) {ops : Array Oper} {rest : List Oper} {o : Oper} {a : Act} {Q : Exit → Act → World → Prop}
    (hg : o.guard = none) (l c : Operand) (hop : o.op = Op.makeSlice 23 l c)
    (L C : Int) (n : Nat) (hl : a.eval l = .int .i64 L) (hc : a.eval c = .int .i64 C) (hL : L = (n : Int)) (hC : C = (n : Int)) (b2 : n ≤ 1099511627776)
    (hK : ∀ w', Blk w' w.heap.size (List.replicate n 0) → Below w.heap.size w w' → wpList Tryd.prog ops Q rest (a.put o.dst (.slice (some ⟨w.heap.size, 0, none⟩) n n)) w') :
    wpList Tryd.prog ops Q (o :: rest) a w := by
  obtain ⟨i0, hi, hz0, hz1, hz2⟩ := info_parts Tryd.infoU64
  refine wpList_make_full w hg l c 23 hop w.heap.size 50 i0 (.int .u64 0) 1 Tryd.underlying23 hi hz0 hz1 .i64 .i64 L C n hl hc hL hC (by rw [hz2]; omega) (by unfold maxLen; omega) (Nat.le_refl _) ?_
  intro w' hown hgrow
  refine hK w' ?_ ((Below.refl _ _).grown hgrow (Nat.le_refl _) (fun k h => by cases h))
  obtain ⟨_, h2⟩ := hown
  rcases h2 with ⟨h2, _⟩ | ⟨g, cap, cur, hv, _, hh, _, _, hs, ht⟩
  · cases h2
  · simp only [Value.slice.injEq, Option.some.injEq, Addr.mk.injEq] at hv
    obtain ⟨⟨rfl, _, _⟩, _, rfl⟩ := hv
    unfold Blk
    rw [hh]
    have e : cur.toList = List.replicate n (Value.int .u64 0) := by
      have h3 : cur.toList.take (n * 1) = cur.toList := List.take_of_length_le (by simp [hs])
      rw [← h3, ht]
      simp only [Nat.mul_one]
      apply List.ext_getElem
      · simp [size_madeCells]
      · intro i h1 h2; simp [madeCells, Value.cells, Nat.mod_one]
    have : cur = (List.map (Value.int .u64) (List.replicate n 0)).toArray := by
      rw [List.map_replicate, ← e]
    rw [this]

/-- 'copy(b, a)' into a block of one's own, from its beginning on. -/
theorem wpList_copyB {w : World} {ops : Array Oper} {rest : List Oper} {o : Oper} {a : Act} {Q : Exit → Act → World → Prop} (hgd : o.guard = none) (d s : Operand)
    (ho : o.op = .call { callee := .builtin .copy, args := #[d, s], argTypes := #[23, 23] })
    (g : Nat) (dLen dCap sLen sCap : Nat) (sp : Option Addr) (hd : a.eval d = .slice (some ⟨g, 0, none⟩) dLen dCap) (hs : a.eval s = .slice sp sLen sCap)
    (us xs : List Int) (hb : Blk w g us) (hr : Reads w sp xs) (hx : sLen = xs.length) (h1 : xs.length ≤ dLen) (h2 : dLen ≤ us.length) (B : Nat) (w0 : World) (hbel : Below B w0 w) (hBg : B ≤ g)
    (h : ∀ w', Blk w' g (xs ++ us.drop xs.length) → Below B w0 w' → wpList Tryd.prog ops Q rest (a.put o.dst (goInt (xs.length : Nat))) w') :
    wpList Tryd.prog ops Q (o :: rest) a w := by
  refine wpList_copy_splice hgd d s 23 23 ho 50 Tryd.underlying23 Tryd.sizeU64 _ sp dLen dCap sLen sCap hd hs g 0 (us.map (Value.int .u64)) 50 hb (xs.map (Value.int .u64)) ?_ ?_ ?_ ?_ B w0 hbel hBg ?_
  · simp only [List.length_map, hx]; exact (Nat.min_eq_left h1).symm
  · intro hp
    simp only [List.length_map] at hp
    obtain ⟨b, oo, rfl, hc⟩ := hr.elim (fun e => by simp [e] at hp) id
    refine ⟨rfl, _, rfl, fun j v hv => ?_⟩
    simp only [List.getElem?_map, Option.map_eq_some_iff] at hv
    obtain ⟨x, hx', rfl⟩ := hv
    have hj : j < xs.length := (List.getElem?_eq_some_iff.1 hx').1
    have := hc j hj
    rw [lm_lt hj] at hx'
    cases hx'
    by_cases h0 : j = 0
    · subst h0; simpa [Addr.add] using this
    · simpa [Addr.add, h0] using this
  · simp only [List.length_map]; omega
  · intro v hv
    simp only [List.mem_map] at hv
    obtain ⟨x, _, rfl⟩ := hv
    rfl
  · intro w' hh hbl
    have := h w' (by unfold Blk; rw [hh.out]; simp [splice]) hbl
    simpa using this

/-! ### math/bits.Add64, Sub64, over Int -/
theorem add64 (x y c : Int) (hx : 0 ≤ x) (hy : 0 ≤ y) (hc0 : 0 ≤ c) (hc : c ≤ 1) (w : World) : (callFunc 48 #[.int .u64 x, .int .u64 y, .int .u64 c]).run Tryd.prog w =
    .ok (.value (.tuple #[.int .u64 ((x + y + c) % 18446744073709551616), .int .u64 ((x + y + c) / 18446744073709551616)])) w := by
  rw [run_callFunc_extern Tryd.func48 (by kernel_rfl) (by kernel_rfl) (by kernel_rfl) (e := add64Entry) (by kernel_rfl), run_add64 x y c hx hy hc0 hc]
  rfl
theorem add64_0 (x y : Int) (hx : 0 ≤ x) (hy : 0 ≤ y) (w : World) : (callFunc 48 #[.int .u64 x, .int .u64 y, .int .u64 0]).run Tryd.prog w =
    .ok (.value (.tuple #[.int .u64 ((x + y) % 18446744073709551616), .int .u64 ((x + y) / 18446744073709551616)])) w := by
  simpa using add64 x y 0 hx hy (Int.le_refl 0) (by decide) w
/-- The second number is the literal 0. -/
theorem add64_c (x c : Int) (hx : 0 ≤ x) (hc0 : 0 ≤ c) (hc : c ≤ 1) (w : World) : (callFunc 48 #[.int .u64 x, .int .u64 0, .int .u64 c]).run Tryd.prog w =
    .ok (.value (.tuple #[.int .u64 ((x + c) % 18446744073709551616), .int .u64 ((x + c) / 18446744073709551616)])) w := by
  simpa using add64 x 0 c hx (Int.le_refl 0) hc0 hc w
/-- The borrow, under a name. -/
def bor (x y : Int) : Int := if x < y then 1 else 0
theorem bor_01 (x y : Int) : 0 ≤ bor x y ∧ bor x y ≤ 1 := by unfold bor; split <;> omega
theorem sub64 (x y b : Int) (hx : 0 ≤ x) (hy : 0 ≤ y) (hy' : y < 18446744073709551616) (hb0 : 0 ≤ b) (hb : b ≤ 1) (w : World) : (callFunc 49 #[.int .u64 x, .int .u64 y, .int .u64 b]).run Tryd.prog w =
    .ok (.value (.tuple #[.int .u64 ((x - y - b) % 18446744073709551616), .int .u64 (bor x (y + b))])) w := by
  obtain ⟨x, rfl⟩ := Int.eq_ofNat_of_zero_le hx
  obtain ⟨y, rfl⟩ := Int.eq_ofNat_of_zero_le hy
  obtain ⟨b, rfl⟩ := Int.eq_ofNat_of_zero_le hb0
  have e1 : (((x + 18446744073709551616 - y - b) % 18446744073709551616 : Nat) : Int) = ((x : Int) - y - b) % 18446744073709551616 := by omega
  have e2 : ((if x < y + b then 1 else 0 : Nat) : Int) = bor x (y + b) := by unfold bor; split <;> split <;> omega
  rw [← e1, ← e2, run_callFunc_extern Tryd.func49 (by kernel_rfl) (by kernel_rfl) (by kernel_rfl) (e := sub64Entry) (by kernel_rfl), run_sub64 x y b (by omega)]
  rfl
theorem sub64_0 (x y : Int) (hx : 0 ≤ x) (hy : 0 ≤ y) (hy' : y < 18446744073709551616) (w : World) : (callFunc 49 #[.int .u64 x, .int .u64 y, .int .u64 0]).run Tryd.prog w =
    .ok (.value (.tuple #[.int .u64 ((x - y) % 18446744073709551616), .int .u64 (bor x y)])) w := by
  simpa using sub64 x y 0 hx hy hy' (Int.le_refl 0) (by decide) w
theorem sub64_c (x b : Int) (hx : 0 ≤ x) (hb0 : 0 ≤ b) (hb : b ≤ 1) (w : World) : (callFunc 49 #[.int .u64 x, .int .u64 0, .int .u64 b]).run Tryd.prog w =
    .ok (.value (.tuple #[.int .u64 ((x - b) % 18446744073709551616), .int .u64 (bor x b)])) w := by
  simpa using sub64 x 0 b hx (Int.le_refl 0) (by decide) hb0 hb w
end Go.Proofs.YtjbcjapgammbhacDoor

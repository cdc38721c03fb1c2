import Derived.Test.YtfelogbfijomiabGreatDoorNum
import Derived.Deep.AppendLies
namespace Go.Proofs.YtfelogbfijomiabGreatDoor
open Go.RowKit

/-- A value that owns the words xs in memory from block B on. -/
def OwnV (w : World) (B : Nat) (v : Value) (xs : List Int) : Prop := w.ownsRow B 49 1 v xs.length (xs.map (Value.int .u64))
/-- Block g holds the words xs from its beginning on; the rest of it, up to cap, is whatever. -/
def Row (w : World) (g cap : Nat) (xs : List Int) : Prop :=
  ∃ cur : Array Value, w.heap[g]? = some (.cells cur 49 (0, 0)) ∧ xs.length ≤ cap ∧ cap ≤ maxLen ∧ cur.size = cap ∧ cur.toList.take xs.length = xs.map (Value.int .u64)
theorem OwnV.nil (w : World) (B : Nat) : OwnV w B (.slice none 0 0) [] := World.ownsRow_nil _ _ _ _
theorem OwnV.row {w : World} {B : Nat} {v : Value} {xs : List Int} (h : OwnV w B v xs) : (v = .slice none 0 0 ∧ xs = []) ∨ ∃ g cap, v = .slice (some ⟨g, 0, none⟩) xs.length cap ∧ B ≤ g ∧ Row w g cap xs := by
  rcases h.2 with ⟨h1, h2⟩ | ⟨g, cap, cur, h1, h2, h3, h4, h5, h6, h7⟩
  · exact .inl ⟨h1, List.eq_nil_of_length_eq_zero h2⟩
  · exact .inr ⟨g, cap, h1, h2, cur, h3, h4, h5, by omega, by simpa using h7⟩
theorem Row.own {w : World} {B g cap : Nat} {xs : List Int} (h : Row w g cap xs) (hB : B ≤ g) : OwnV w B (.slice (some ⟨g, 0, none⟩) xs.length cap) xs := by
  obtain ⟨cur, h1, h2, h3, h4, h5⟩ := h
  exact ⟨by simp, .inr ⟨g, cap, cur, rfl, hB, h1, h2, h3, by omega, by simpa using h5⟩⟩
theorem Blk.row {w : World} {g : Nat} {us : List Int} (h : Blk w g us) (n : Nat) (hm : us.length ≤ maxLen) : Row w g us.length (us.take n) :=
  ⟨_, h, by simp; omega, hm, by simp, by simp [List.map_take]⟩
theorem Row.lt {w : World} {g cap : Nat} {xs : List Int} (h : Row w g cap xs) : g < w.heap.size := by
  obtain ⟨cur, h1, _⟩ := h; exact (Array.getElem?_eq_some_iff.1 h1).1
theorem Row.le {w : World} {g cap : Nat} {xs : List Int} (h : Row w g cap xs) : xs.length ≤ cap := by
  obtain ⟨cur, _, h2, _⟩ := h; exact h2
theorem Row.cell {w : World} {g cap : Nat} {xs : List Int} (h : Row w g cap xs) {i : Nat} (hi : i < xs.length) : w.cell? ⟨g, i, none⟩ = some (.int .u64 (lm xs i)) := by
  obtain ⟨cur, h1, h2, h3, h4, h5⟩ := h
  have e : cur[i]? = some (.int .u64 (lm xs i)) := by
    have := congrArg (fun l => l[i]?) h5
    simp only [List.getElem?_take_of_lt hi, List.getElem?_map, lm_lt hi] at this
    simpa using this
  simp [World.cell?, h1, e]
theorem Row.frozen {w : World} {g cap : Nat} {xs : List Int} (h : Row w g cap xs) (i : Nat) : w.frozen? ⟨g, i, none⟩ = false := by
  obtain ⟨cur, h1, _⟩ := h
  simp [World.frozen?, h1]
theorem Row.set {w : World} {g cap : Nat} {xs : List Int} (h : Row w g cap xs) (i : Nat) (z : Int) : Row (w.setCell ⟨g, i, none⟩ (.int .u64 z)) g cap (xs.set i z) := by
  obtain ⟨cur, h1, h2, h3, h4, h5⟩ := h
  refine ⟨cur.setIfInBounds i (.int .u64 z), by simp [World.setCell, Array.getElem?_modify, h1], by simpa using h2, h3, by simpa using h4, ?_⟩
  simp [List.take_set, h5, List.map_set]
theorem Row.of_block {w w' : World} {g cap : Nat} {xs : List Int} (h : Row w g cap xs) (hb : w'.heap[g]? = w.heap[g]?) : Row w' g cap xs := by
  obtain ⟨cur, h1, h2⟩ := h
  exact ⟨cur, by rw [hb]; exact h1, h2⟩
theorem Row.below {w w' : World} {g cap B : Nat} {xs : List Int} (h : Row w g cap xs) (hb : Below B w w') (hg : g < B) : Row w' g cap xs := h.of_block (hb.block g hg)
theorem Row.belowAll {w w' : World} {g cap : Nat} {xs : List Int} (h : Row w g cap xs) (hb : Below w.heap.size w w') : Row w' g cap xs := h.below hb h.lt
theorem Row.off {w w' : World} {g cap k : Nat} {xs : List Int} (h : Row w g cap xs) (ho : Off k w w') (hg : g ≠ k) : Row w' g cap xs := h.of_block (ho.block g hg)
theorem Row.drewN {w : World} {g cap : Nat} {xs : List Int} (h : Row w g cap xs) (n : Nat) : Row (w.drewN n) g cap xs := h
theorem Row.take {w : World} {g cap : Nat} {xs : List Int} (h : Row w g cap xs) (n : Nat) : Row w g cap (xs.take n) := by
  obtain ⟨cur, h1, h2, h3, h4, h5⟩ := h
  refine ⟨cur, h1, by simp; omega, h3, h4, ?_⟩
  rw [List.map_take, ← h5, List.take_take, List.length_take]
theorem Row.reads {w : World} {g cap : Nat} {xs : List Int} (h : Row w g cap xs) : Reads w (some ⟨g, 0, none⟩) xs :=
  .inr ⟨g, 0, rfl, fun i hi => by rw [Nat.zero_add]; exact h.cell hi⟩
theorem OwnV.reads {w : World} {B : Nat} {a : Option Addr} {n cap : Nat} {xs : List Int} (h : OwnV w B (.slice a n cap) xs) : n = xs.length ∧ n ≤ cap ∧ Reads w a xs := by
  rcases h.row with ⟨h1, h2⟩ | ⟨g, c, h1, _, h3⟩
  · cases h1; subst h2; exact ⟨rfl, Nat.le_refl _, .inl rfl⟩
  · cases h1; exact ⟨rfl, h3.le, h3.reads⟩
theorem OwnV.slice {w : World} {B : Nat} {v : Value} {xs : List Int} (h : OwnV w B v xs) : ∃ a cap, v = .slice a xs.length cap := by
  rcases h.row with ⟨h1, h2⟩ | ⟨g, c, h1, _, _⟩
  · subst h2; exact ⟨none, 0, h1⟩
  · exact ⟨_, _, h1⟩
theorem OwnV.drew {w : World} {B : Nat} {v : Value} {xs : List Int} (h : OwnV w B v xs) : OwnV w.drew B v xs := h
theorem OwnV.below {w w' : World} {B : Nat} {v : Value} {xs : List Int} (h : OwnV w B v xs) (hb : Below w.heap.size w w') : OwnV w' B v xs := by
  rcases h.row with ⟨h1, h2⟩ | ⟨g, c, h1, h2, h3⟩
  · subst h1 h2; exact OwnV.nil _ _
  · subst h1; exact (h3.belowAll hb).own h2
theorem OwnV.mono {w : World} {B B' : Nat} {v : Value} {xs : List Int} (h : OwnV w B v xs) (hB : B' ≤ B) : OwnV w B' v xs := by
  rcases h.row with ⟨h1, h2⟩ | ⟨g, c, h1, h2, h3⟩
  · subst h1 h2; exact OwnV.nil _ _
  · subst h1; exact h3.own (by omega)

theorem own_form {w : World} {B : Nat} {v : Value} {xs : List Int} {n : Nat} (h : OwnV w B v xs) (hn : xs.length = n) : ∃ a cap, v = .slice a n cap := by
  subst hn; exact h.slice
theorem own_some {w : World} {B : Nat} {a : Option Addr} {n cap : Nat} {xs : List Int} (h : OwnV w B (.slice a n cap) xs) (hn : 0 < n) : ∃ g, a = some ⟨g, 0, none⟩ ∧ Row w g cap xs := by
  rcases h.row with ⟨e, _⟩ | ⟨g, cap', e, _, hr⟩
  · simp only [Value.slice.injEq] at e; omega
  · simp only [Value.slice.injEq] at e
    obtain ⟨rfl, _, rfl⟩ := e
    exact ⟨g, rfl, hr⟩
theorem grown_below {B : Nat} {w w' : World} {row : Option Nat} (hg : w.grownBy w' row) (hB : B ≤ w.heap.size) (hr : ∀ k, row = some k → B ≤ k) : Below B w w' := (Below.refl _ _).grown hg hB hr
theorem OwnV.alloc {w : World} {B : Nat} {v : Value} {xs : List Int} (h : OwnV w B v xs) (o : Obj) : OwnV (w.alloc o) B v xs := World.ownsRow.alloc h o
theorem OwnV.lt {w : World} {B : Nat} {v : Value} {xs : List Int} (h : OwnV w B v xs) : ∀ k, v.ownBlock = some k → B ≤ k ∧ k < w.heap.size := World.ownsRow.lt h
theorem cell_new1 {w : World} {h : Nat} {v : Value} {t : TypeId} (hh : h = w.heap.size) : (w.alloc (.cells #[v] t)).cell? ⟨h, 0, none⟩ = some v := by subst hh; simp
theorem take_snoc_lm (xs : List Int) (k : Nat) (h : k < xs.length) : xs.take k ++ [lm xs k] = xs.take (k + 1) := by
  rw [List.take_succ_eq_append_getElem h]
  simp [lm, List.getElem?_eq_getElem h]
/-- 'append(v, z)' at a plain region: z lies in a block of its own already. -/
theorem wpList_append1 (t : TypeId) (ht : Tryz.prog.underlying t = some (.slice 49)) (w : World) {ops : Array Oper} {rest : List Oper} {o : Oper} {a : Act} {Q : Exit → Act → World → Prop} (hgd : o.guard = none) (s x : Operand)
    (ho : o.op = .call { callee := .builtin .append, args := #[s, x], argTypes := #[t, t] }) (B : Nat) (v : Value) (xs : List Int) (n : Nat) (hn : Hid (xs.length = n)) (hs : a.eval s = v) (hown : OwnV w B v xs) (h : Nat) (c : Nat) (z : Int) (hx : a.eval x = .slice (some ⟨h, 0, none⟩) 1 c)
    (hc : w.cell? ⟨h, 0, none⟩ = some (.int .u64 z)) (hlen : n ≤ 1000000000000) (hB : B ≤ w.heap.size) (H : Nat) (hH : w.heap.size = H)
    (hK : ∀ g cap w', OwnV w' B (.slice (some ⟨g, 0, none⟩) (n + 1) cap) (xs ++ [z]) → w.grownBy w' v.ownBlock → (v.ownBlock = some g ∨ g = H) → g < w'.heap.size → wpList Tryz.prog ops Q rest (a.put o.dst (.slice (some ⟨g, 0, none⟩) (n + 1) cap)) w') :
    wpList Tryz.prog ops Q (o :: rest) a w := by
  obtain rfl := hn.out
  obtain ⟨i0, hi, hz0, hz1, hz2⟩ := info_parts Tryz.infoU64
  refine wpList_append_lies w hgd s x t ho B 49 i0 (.int .u64 0) 1 8 ht hi hz0 hz1 hz2 rfl (by decide) v xs.length (xs.map (Value.int .u64)) hs hown ⟨h, 0, none⟩ 1 c [.int .u64 z] hx rfl ?_ (fun u hu => by simp at hu; subst hu; rfl) (by decide) (by unfold maxLen; omega) (by omega) hB H hH ?_
  · intro j u hj
    match j, hj with
    | 0, hj => simp at hj; subst hj; simpa [Addr.add] using hc
  · intro g cap w' h1 h2 h3 h4
    refine hK g cap w' ?_ h2 h3 h4
    unfold OwnV
    simpa using h1
/-- 'append(v, y, z)' likewise. -/
theorem wpList_append2 (t : TypeId) (ht : Tryz.prog.underlying t = some (.slice 49)) (w : World) {ops : Array Oper} {rest : List Oper} {o : Oper} {a : Act} {Q : Exit → Act → World → Prop} (hgd : o.guard = none) (s x : Operand)
    (ho : o.op = .call { callee := .builtin .append, args := #[s, x], argTypes := #[t, t] }) (B : Nat) (v : Value) (xs : List Int) (n : Nat) (hn : Hid (xs.length = n)) (hs : a.eval s = v) (hown : OwnV w B v xs) (h : Nat) (c : Nat) (y z : Int) (hx : a.eval x = .slice (some ⟨h, 0, none⟩) 2 c)
    (hc0 : w.cell? ⟨h, 0, none⟩ = some (.int .u64 y)) (hc : w.cell? ⟨h, 1, none⟩ = some (.int .u64 z)) (hlen : n ≤ 1000000000000) (hB : B ≤ w.heap.size) (H : Nat) (hH : w.heap.size = H)
    (hK : ∀ g cap w', OwnV w' B (.slice (some ⟨g, 0, none⟩) (n + 2) cap) (xs ++ [y, z]) → w.grownBy w' v.ownBlock → (v.ownBlock = some g ∨ g = H) → g < w'.heap.size → wpList Tryz.prog ops Q rest (a.put o.dst (.slice (some ⟨g, 0, none⟩) (n + 2) cap)) w') :
    wpList Tryz.prog ops Q (o :: rest) a w := by
  obtain rfl := hn.out
  obtain ⟨i0, hi, hz0, hz1, hz2⟩ := info_parts Tryz.infoU64
  refine wpList_append_lies w hgd s x t ho B 49 i0 (.int .u64 0) 1 8 ht hi hz0 hz1 hz2 rfl (by decide) v xs.length (xs.map (Value.int .u64)) hs hown ⟨h, 0, none⟩ 2 c [.int .u64 y, .int .u64 z] hx rfl ?_ (fun u hu => by simp at hu; rcases hu with rfl | rfl <;> rfl) (by decide) (by unfold maxLen; omega) (by omega) hB H hH ?_
  · intro j u hj
    match j, hj with
    | 0, hj => simp at hj; subst hj; simpa [Addr.add] using hc0
    | 1, hj => simp at hj; subst hj; simpa [Addr.add] using hc
  · intro g cap w' h1 h2 h3 h4
    refine hK g cap w' ?_ h2 h3 h4
    unfold OwnV
    simpa using h1
/-- 'append(v, y, z)' at a step of a region that draws its order. -/
theorem step_append2 (t : TypeId) (ht : Tryz.prog.underlying t = some (.slice 49)) (w : World) {ops : Array Oper} {o : Oper} {a : Act} {K : Act → World → Prop} {Q : Exit → Act → World → Prop} {E : Prop} (hgd : o.guard = none) (s x : Operand)
    (ho : o.op = .call { callee := .builtin .append, args := #[s, x], argTypes := #[t, t] }) (B : Nat) (v : Value) (xs : List Int) (n : Nat) (hn : Hid (xs.length = n)) (hs : a.eval s = v) (hown : OwnV w B v xs) (h : Nat) (c : Nat) (y z : Int) (hx : a.eval x = .slice (some ⟨h, 0, none⟩) 2 c)
    (hc0 : w.cell? ⟨h, 0, none⟩ = some (.int .u64 y)) (hc : w.cell? ⟨h, 1, none⟩ = some (.int .u64 z)) (hlen : n ≤ 1000000000000) (hB : B ≤ w.heap.size) (H : Nat) (hH : w.heap.size = H)
    (hK : ∀ g cap w', OwnV w' B (.slice (some ⟨g, 0, none⟩) (n + 2) cap) (xs ++ [y, z]) → w.grownBy w' v.ownBlock → (v.ownBlock = some g ∨ g = H) → g < w'.heap.size → K (a.put o.dst (.slice (some ⟨g, 0, none⟩) (n + 2) cap)) w') :
    if Region.wanted o (yielded ops a.tmps) = true then Oper.wp Tryz.prog o a w K Q else E := by
  obtain rfl := hn.out
  obtain ⟨i0, hi, hz0, hz1, hz2⟩ := info_parts Tryz.infoU64
  refine step_append_lies w hgd s x t ho B 49 i0 (.int .u64 0) 1 8 ht hi hz0 hz1 hz2 rfl (by decide) v xs.length (xs.map (Value.int .u64)) hs hown ⟨h, 0, none⟩ 2 c [.int .u64 y, .int .u64 z] hx rfl ?_ (fun u hu => by simp at hu; rcases hu with rfl | rfl <;> rfl) (by decide) (by unfold maxLen; omega) (by omega) hB H hH ?_
  · intro j u hj
    match j, hj with
    | 0, hj => simp at hj; subst hj; simpa [Addr.add] using hc0
    | 1, hj => simp at hj; subst hj; simpa [Addr.add] using hc
  · intro g cap w' h1 h2 h3 h4
    refine hK g cap w' ?_ h2 h3 h4
    unfold OwnV
    simpa using h1
end Go.Proofs.YtfelogbfijomiabGreatDoor

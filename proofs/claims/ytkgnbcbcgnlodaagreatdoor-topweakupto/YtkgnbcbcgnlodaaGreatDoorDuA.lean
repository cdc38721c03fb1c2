import Derived.Test.YtkgnbcbcgnlodaaGreatDoorTgA
import Derived.Test.YtkgnbcbcgnlodaaGreatDoorShAAll
namespace Go.Proofs.YtkgnbcbcgnlodaaGreatDoor
open Go.RowKit

/-- A number in one of two senses. -/
def dsg (s : Bool) (r : Rat) : Rat := if s then -r else r
/-- A row of a dual: its name, its two bounds (both the same), its terms, with their limbs. -/
structure DR where
  nm : ByteArray
  c : Rat
  m : Nat
  t : Nat → PT
  Z : Nat → Nat
/-- A variable of a dual: its name, what it counts, its limbs. -/
structure DV where
  nm : ByteArray
  obj : Rat
  Z : Nat
def DR.push (r : DR) (x : PT) (z : Nat) : DR := { r with m := r.m + 1, t := fun i => if i < r.m then r.t i else x, Z := fun i => if i < r.m then r.Z i else z }
/-- The blocks of a dual that is being made: the problem's own, its lists'. -/
structure Fp where
  D : Nat
  vv : Value
  rv : Value
  rn : Nat
  tv : Nat → Value
def Fp.has (f : Fp) (k : Nat) : Prop := k = f.D ∨ f.vv.ownBlock = some k ∨ f.rv.ownBlock = some k ∨ ∃ j, j < f.rn ∧ (f.tv j).ownBlock = some k
/-- Only blocks of C may have changed; those of C' are of C, or new. -/
structure KF (C C' : Nat → Prop) (w w' : World) : Prop where
  os : w'.os = w.os
  tape : w'.tape = w.tape
  output : w'.output = w.output
  size : w.heap.size ≤ w'.heap.size
  blk : ∀ k, k < w.heap.size → ¬ C k → w'.heap[k]? = w.heap[k]?
  sub : ∀ k, C' k → C k ∨ w.heap.size ≤ k
theorem KF.refl (C : Nat → Prop) (w : World) : KF C C w w := ⟨rfl, rfl, rfl, Nat.le_refl _, fun _ _ _ => rfl, fun _ h => .inl h⟩
theorem KF.trans {C C' C'' : Nat → Prop} {a b c : World} (h : KF C C' a b) (k : KF C' C'' b c) : KF C C'' a c :=
  ⟨k.os.trans h.os, k.tape.trans h.tape, k.output.trans h.output, Nat.le_trans h.size k.size, fun i h1 h2 => (k.blk i (Nat.lt_of_lt_of_le h1 h.size) (fun e => by rcases h.sub i e with e | e; exact h2 e; omega)).trans (h.blk i h1 h2), fun i e => by
    rcases k.sub i e with e | e
    · exact h.sub i e
    · exact .inr (Nat.le_trans h.size e)⟩
theorem KF.bel {C C' : Nat → Prop} {a b c : World} (h : KF C C' a b) (k : Below b.heap.size b c) : KF C C' a c :=
  ⟨k.os.trans h.os, k.tape.trans h.tape, k.output.trans h.output, Nat.le_trans h.size k.size, fun i h1 h2 => (k.block i (Nat.lt_of_lt_of_le h1 h.size)).trans (h.blk i h1 h2), h.sub⟩
theorem KF.below {C C' : Nat → Prop} {a b : World} {F : Nat} (h : KF C C' a b) (hC : ∀ k, C k → F ≤ k) (hF : F ≤ a.heap.size) : Below F a b :=
  ⟨h.os, h.tape, h.output, h.size, fun k hk => h.blk k (by omega) fun e => by have := hC k e; omega⟩
/-- Blocks of C hold no words. -/
def NoU (w : World) (C : Nat → Prop) : Prop := ∀ k, C k → ∃ cur T, w.heap[k]? = some (.cells cur T (0, 0)) ∧ T ≠ 119
theorem Got.kf {C C' : Nat → Prop} {w w' : World} {B : Nat} {v : Value} {x : Int} {S : Nat} (h : Got w B v x S) (hk : KF C C' w w') (hn : NoU w C) : Got w' B v x S := by
  obtain ⟨xs, h1, h2⟩ := h
  refine ⟨xs, ⟨h1.1, ?_⟩, h2⟩
  rcases h1.2 with hn | ⟨g, cap, cur, e1, e2, hgb, rest⟩
  · exact .inl hn
  · refine .inr ⟨g, cap, cur, e1, e2, (hk.blk g (Array.getElem?_eq_some_iff.1 hgb).1 fun e => ?_).trans hgb, rest⟩
    obtain ⟨cur2, T, f2, hT⟩ := hn g e
    rw [hgb] at f2
    simp only [Option.some.injEq, Obj.cells.injEq] at f2
    exact hT f2.2.1.symm
theorem GR.kf {C C' : Nat → Prop} {w w' : World} {B : Nat} {f : Bool} {c : Option Addr} {n k : Nat} {c' : Option Addr} {n' k' : Nat} {r : Rat} {S : Nat} (h : GR w B f c n k c' n' k' r S) (hk : KF C C' w w') (hn : NoU w C) : GR w' B f c n k c' n' k' r S := by
  refine ⟨?_, h.2.kf hk hn⟩
  obtain ⟨a, n2, c2, h1, h2⟩ := h.1
  exact ⟨a, n2, c2, h1, h2.kf hk hn⟩
theorem kf_cell {C C' : Nat → Prop} {w w' : World} (hk : KF C C' w w') {g o : Nat} {v : Value} (hg : ¬ C g) (h : w.cell? ⟨g, o, none⟩ = some v) : w'.cell? ⟨g, o, none⟩ = some v :=
  (World.cell?_of_block (w := w) (hk.blk g (World.block_lt_of_cell? _ _ h) hg)).trans h
theorem BoxC.kf {C C' : Nat → Prop} {w w' : World} {R : Nat} {cs : List Value} (h : BoxC w R cs) (hk : KF C C' w w') (hR : ¬ C R) : BoxC w' R cs := fun i u hu => kf_cell hk hR (h i u hu)
theorem LTG.lt {w : World} {ta : Option Addr} {n : Nat} {t : Nat → PT} {S : Nat} (h : LTG w ta n t S) (hn : n ≠ 0) {g : Nat} (hg : ta = some ⟨g, 0, none⟩) : g < w.heap.size := by
  rcases h with h | ⟨g', e, h⟩
  · exact absurd h hn
  · obtain ⟨p, a, na, ca, d, nd, cd, h1, _⟩ := h 0 (by omega)
    rw [hg] at e
    simp only [Option.some.injEq, Addr.mk.injEq, and_true] at e
    subst e
    exact World.block_lt_of_cell? _ _ h1
theorem LTG.kf {C C' : Nat → Prop} {w w' : World} {ta : Option Addr} {n : Nat} {t : Nat → PT} {S : Nat} (h : LTG w ta n t S) (hk : KF C C' w w') (hn : NoU w C) (ht : n ≠ 0 → ∀ g, ta = some ⟨g, 0, none⟩ → ¬ C g) : LTG w' ta n t S := by
  rcases h with h | ⟨g, e, h⟩
  · exact .inl h
  · by_cases h0 : n = 0
    · exact .inl h0
    · refine .inr ⟨g, e, fun i hi => ?_⟩
      obtain ⟨p, a, na, ca, d, nd, cd, h1, h2, h3, h4, h5⟩ := h i hi
      have hg := ht h0 g e
      exact ⟨p, a, na, ca, d, nd, cd, kf_cell hk hg h1, kf_cell hk hg h2, kf_cell hk hg h3, kf_cell hk hg h4, h5.kf hk hn⟩
/-- A variable's cells: from nought on, with no bound above. -/
def VD (w : World) (cs : List Value) (v : DV) : Prop := ∃ p a n k d m l, cs = [.string v.nm, .bool p, .slice a n k, .slice d m l, .bool true, .bool false, .slice none 0 0, .slice none 0 0, .bool false, .bool false, .slice none 0 0, .slice none 0 0, .bool false] ∧ GR w 0 p a n k d m l v.obj v.Z
/-- A row's cells. -/
def RD (w : World) (cs : List Value) (tv : Value) (r : DR) (S : Nat) : Prop := ∃ p a n k d m l, cs = [.string r.nm, tv, .bool true, .bool p, .slice a n k, .slice d m l, .bool true, .bool p, .slice a n k, .slice d m l] ∧ GR w 0 p a n k d m l r.c S
/-- A dual that is being made. -/
structure DU (w : World) (F : Nat) (f : Fp) (mx : Bool) (c0 c1 c2 : Value) (vn : Nat) (V : Nat → DV) (R : Nat → DR) (S : Nat) : Prop where
  rw : Rw 31 w f.D #[.bool mx, .string ⟨#[]⟩, c0, c1, c2, f.vv, f.rv]
  v : ∃ E, SL w F 54 13 f.vv vn E ∧ ∀ q, q < vn → VD w (E q) (V q)
  r : ∃ E, SL w F 59 10 f.rv f.rn E ∧ ∀ q, q < f.rn → RD w (E q) (f.tv q) (R q) S
  t : ∀ q, q < f.rn → TL w F (f.tv q) (R q).m (R q).t (R q).Z
  ne : ∀ i j, i < f.rn → j < f.rn → i ≠ j → ∀ g, (f.tv i).ownBlock = some g → (f.tv j).ownBlock ≠ some g
  lo : F ≤ f.D
theorem SL.typ {w : World} {B : Nat} {T : TypeId} {c : Nat} {v : Value} {n : Nat} {E : Nat → List Value} (h : SL w B T c v n E) {g : Nat} (hg : v.ownBlock = some g) : ∃ cur, w.heap[g]? = some (.cells cur T (0, 0)) := by
  obtain ⟨vs, h1, _⟩ := h
  rcases h1.2 with ⟨rfl, _⟩ | ⟨g', cap, cur, e1, _, f1, _⟩
  · cases hg
  · subst e1
    simp [Value.ownBlock] at hg
    subst hg
    exact ⟨cur, f1⟩
theorem DU.lt {w : World} {F : Nat} {f : Fp} {mx : Bool} {c0 c1 c2 : Value} {vn : Nat} {V : Nat → DV} {R : Nat → DR} {S : Nat} (h : DU w F f mx c0 c1 c2 vn V R S) : ∀ k, f.has k → F ≤ k ∧ k < w.heap.size := by
  rintro k (rfl | e | e | ⟨j, hj, e⟩)
  · exact ⟨h.lo, h.rw.lt⟩
  · obtain ⟨E, h1, _⟩ := h.v
    exact h1.lt k e
  · obtain ⟨E, h1, _⟩ := h.r
    exact h1.lt k e
  · obtain ⟨E, h1, _⟩ := h.t j hj
    exact h1.lt k e
theorem DU.noU {w : World} {F : Nat} {f : Fp} {mx : Bool} {c0 c1 c2 : Value} {vn : Nat} {V : Nat → DV} {R : Nat → DR} {S : Nat} (h : DU w F f mx c0 c1 c2 vn V R S) : NoU w f.has := by
  rintro k (rfl | e | e | ⟨j, hj, e⟩)
  · exact ⟨_, _, h.rw, by decide⟩
  · obtain ⟨E, h1, _⟩ := h.v
    obtain ⟨cur, h2⟩ := h1.typ e
    exact ⟨cur, _, h2, by decide⟩
  · obtain ⟨E, h1, _⟩ := h.r
    obtain ⟨cur, h2⟩ := h1.typ e
    exact ⟨cur, _, h2, by decide⟩
  · obtain ⟨E, h1, _⟩ := h.t j hj
    obtain ⟨cur, h2⟩ := h1.typ e
    exact ⟨cur, _, h2, by decide⟩
theorem VD.below {w w' : World} {cs : List Value} {v : DV} (h : VD w cs v) (hb : Below w.heap.size w w') : VD w' cs v := by
  obtain ⟨p, a, n, k, d, m, l, e, g⟩ := h
  exact ⟨p, a, n, k, d, m, l, e, g.below hb⟩
theorem RD.below {w w' : World} {cs : List Value} {tv : Value} {r : DR} {S : Nat} (h : RD w cs tv r S) (hb : Below w.heap.size w w') : RD w' cs tv r S := by
  obtain ⟨p, a, n, k, d, m, l, e, g⟩ := h
  exact ⟨p, a, n, k, d, m, l, e, g.below hb⟩
theorem VD.keep {w w' : World} {cs : List Value} {v : DV} (h : VD w cs v) {row : Option Nat} (hn : NoW w row) (hg : w.grownBy w' row) : VD w' cs v := by
  obtain ⟨p, a, n, k, d, m, l, e, g⟩ := h
  exact ⟨p, a, n, k, d, m, l, e, g.keep hn hg⟩
theorem RD.keep {w w' : World} {cs : List Value} {tv : Value} {r : DR} {S : Nat} (h : RD w cs tv r S) {row : Option Nat} (hn : NoW w row) (hg : w.grownBy w' row) : RD w' cs tv r S := by
  obtain ⟨p, a, n, k, d, m, l, e, g⟩ := h
  exact ⟨p, a, n, k, d, m, l, e, g.keep hn hg⟩
theorem DU.below {w w' : World} {F : Nat} {f : Fp} {mx : Bool} {c0 c1 c2 : Value} {vn : Nat} {V : Nat → DV} {R : Nat → DR} {S : Nat} (h : DU w F f mx c0 c1 c2 vn V R S) (hb : Below w.heap.size w w') : DU w' F f mx c0 c1 c2 vn V R S := by
  obtain ⟨E, h1, h2⟩ := h.v
  obtain ⟨E', h3, h4⟩ := h.r
  exact ⟨h.rw.below hb, ⟨E, h1.below hb, fun q hq => (h2 q hq).below hb⟩, ⟨E', h3.below hb, fun q hq => (h4 q hq).below hb⟩, fun q hq => (h.t q hq).below hb, h.ne, h.lo⟩
/-- One cell of a list's block written over. -/
theorem SL.put {w : World} {B : Nat} {T : TypeId} {c : Nat} {n cap g : Nat} {E E' : Nat → List Value} (h : SL w B T c (.slice (some ⟨g, 0, none⟩) n cap) n E) {i o : Nat} {v : Value} (hi : i < n) (ho : o < c)
    (he : ∀ q, q < n → q ≠ i → E' q = E q) (he2 : ∀ j u, (E' i)[j]? = some u → j = o ∧ u = v ∨ j ≠ o ∧ (E i)[j]? = some u) :
    SL (w.setCell ⟨g, i * c + o, none⟩ v) B T c (.slice (some ⟨g, 0, none⟩) n cap) n E' := by
  obtain ⟨vs, ⟨h1, h2⟩, h3⟩ := h
  rcases h2 with ⟨e, _⟩ | ⟨g', cap', cur, e1, e2, hgb, e3, e4, e5, e6⟩
  · cases e
  simp only [Value.slice.injEq, Option.some.injEq, Addr.mk.injEq, and_true, true_and] at e1
  obtain ⟨rfl, rfl⟩ := e1
  have hk : i * c + o < n * c := by
    have h7 : (i + 1) * c ≤ n * c := Nat.mul_le_mul_right c hi
    have h8 : (i + 1) * c = i * c + c := Nat.succ_mul i c
    omega
  refine ⟨vs.set (i * c + o) v, ⟨by rw [List.length_set]; exact h1, .inr ⟨g, cap, cur.setIfInBounds (i * c + o) v, rfl, e2, heap_setCell_same w g (i * c + o) cur T v hgb, e3, e4, by simpa using e5, ?_⟩⟩, fun q hq j u hu => ?_⟩
  · rw [Array.toList_setIfInBounds, ← e6, List.take_set]
  · by_cases hqi : q = i
    · subst hqi
      rcases he2 j u hu with ⟨rfl, rfl⟩ | ⟨hj, hE⟩
      · refine ⟨ho, ?_⟩
        rw [List.getElem?_set_self (by omega)]
      · obtain ⟨a1, a2⟩ := h3 q hq j u hE
        refine ⟨a1, ?_⟩
        rw [List.getElem?_set_ne (by omega)]
        exact a2
    · rw [he q hq hqi] at hu
      obtain ⟨a1, a2⟩ := h3 q hq j u hu
      refine ⟨a1, ?_⟩
      have hne : i * c + o ≠ q * c + j := by
        intro e
        rcases Nat.lt_or_gt_of_ne hqi with hl | hl
        · have h7 : (q + 1) * c ≤ i * c := Nat.mul_le_mul_right c hl
          have h8 : (q + 1) * c = q * c + c := Nat.succ_mul q c
          omega
        · have h7 : (i + 1) * c ≤ q * c := Nat.mul_le_mul_right c hl
          have h8 : (i + 1) * c = i * c + c := Nat.succ_mul i c
          omega
      rw [List.getElem?_set_ne hne]
      exact a2
theorem SL.ne2 {w : World} {B B' : Nat} {T U : TypeId} {c c' : Nat} {v u : Value} {n m : Nat} {E E' : Nat → List Value} (h : SL w B T c v n E) (k : SL w B' U c' u m E') (hT : T ≠ U) : ∀ g, v.ownBlock = some g → u.ownBlock ≠ some g := by
  intro g h1 h2
  obtain ⟨cur, e1⟩ := h.typ h1
  obtain ⟨cur', e2⟩ := k.typ h2
  rw [e1] at e2
  simp only [Option.some.injEq, Obj.cells.injEq] at e2
  exact hT e2.2.1
theorem KF.of2 {C C' : Nat → Prop} {a b c : World} {row : Option Nat} {D : Nat} (hg : a.grownBy b row) (ho : Off D b c) (h1 : ∀ g, row = some g → C g) (h2 : C D) (hs : ∀ k, C' k → C k ∨ a.heap.size ≤ k) : KF C C' a c :=
  ⟨ho.os.trans hg.os, ho.tape.trans hg.tape, ho.output.trans hg.output, Nat.le_trans hg.size (Nat.le_of_eq ho.size.symm), fun k hk hn => (ho.block k (fun e => hn (e ▸ h2))).trans (hg.block k hk fun e => hn (h1 k e.symm)), hs⟩
/-- One more variable. -/
theorem DU.addV {z w6 : World} {F : Nat} {f : Fp} {mx : Bool} {c0 c1 c2 : Value} {vn : Nat} {V : Nat → DV} {R : Nat → DR} {S : Nat} (h : DU z F f mx c0 c1 c2 vn V R S) {E : Nat → List Value} (hS : SL z F 54 13 f.vv vn E) (hE : ∀ q, q < vn → VD z (E q) (V q)) {g cap : Nat} {cs : List Value} {v : DV}
    (SN : SL w6 F 54 13 (.slice (some ⟨g, 0, none⟩) (vn + 1) cap) (vn + 1) (fun i => if i < vn then E i else cs)) (hg : z.grownBy w6 f.vv.ownBlock) (hat : f.vv.ownBlock = some g ∨ g = z.heap.size) (hc : VD z cs v) :
    DU (w6.setCell ⟨f.D, 5, none⟩ (.slice (some ⟨g, 0, none⟩) (vn + 1) cap)) F { f with vv := .slice (some ⟨g, 0, none⟩) (vn + 1) cap } mx c0 c1 c2 (vn + 1) (fun i => if i < vn then V i else v) R S ∧ KF f.has ({ f with vv := .slice (some ⟨g, 0, none⟩) (vn + 1) cap } : Fp).has z (w6.setCell ⟨f.D, 5, none⟩ (.slice (some ⟨g, 0, none⟩) (vn + 1) cap)) := by
  have hn := hS.noW (show 54 ≠ 119 by decide)
  have RZ := h.rw.kept hg (hS.neR h.rw (by decide))
  obtain ⟨RN, O⟩ := RZ.set 5 (.slice (some ⟨g, 0, none⟩) (vn + 1) cap)
  have hn2 : NoW w6 (some f.D) := RZ.noW (by decide)
  obtain ⟨E', s1, s2⟩ := h.r
  refine ⟨⟨by simpa using RN, ⟨_, SN.kept O.grown (fun k e e2 => SN.neR RZ (by decide) (by rw [e]; exact e2.symm)), fun q hq => ?_⟩, ⟨E', ?_, fun q hq => ((s2 q hq).keep hn hg).keep hn2 O.grown⟩, fun q hq => ?_, h.ne, h.lo⟩, ?_⟩
  · by_cases e : q < vn
    · simp only [e, if_true]
      exact ((hE q e).keep hn hg).keep hn2 O.grown
    · simp only [e, if_false]
      exact (hc.keep hn hg).keep hn2 O.grown
  · have s3 := s1.kept hg (fun k e e2 => s1.ne2 hS (by decide) k e e2)
    exact s3.kept O.grown (fun k e e2 => s3.neR RZ (by decide) (by rw [e]; exact e2.symm))
  · have t0 := h.t q hq
    obtain ⟨Et, t1, t2⟩ := id t0
    have t3 := t0.keep hn (fun k e e2 => t1.ne2 hS (by decide) k e e2) hg
    obtain ⟨Et', t4, t5⟩ := id t3
    exact t3.keep hn2 (fun k e e2 => t4.neR RZ (by decide) (by rw [e]; exact e2.symm)) O.grown
  · refine KF.of2 hg O (fun k e => .inr (.inl e)) (.inl rfl) ?_
    rintro k (e | e | e | ⟨j, hj, e⟩)
    · exact .inl (.inl e)
    · simp [Value.ownBlock] at e
      subst e
      rcases hat with e | e
      · exact .inl (.inr (.inl e))
      · exact .inr (Nat.le_of_eq e.symm)
    · exact .inl (.inr (.inr (.inl e)))
    · exact .inl (.inr (.inr (.inr ⟨j, hj, e⟩)))
/-- One more term in a row. -/
theorem DU.addT {z w6 : World} {F : Nat} {f : Fp} {mx : Bool} {c0 c1 c2 : Value} {vn : Nat} {V : Nat → DV} {R : Nat → DR} {S : Nat} (h : DU z F f mx c0 c1 c2 vn V R S) {j : Nat} (hj : j < f.rn) {rg rc : Nat} (hrv : f.rv = .slice (some ⟨rg, 0, none⟩) f.rn rc) {E : Nat → List Value} (hS : SL z F 56 4 (f.tv j) (R j).m E) (hE : ∀ q, q < (R j).m → TC z F (E q) ((R j).t q) ((R j).Z q)) {g cap : Nat} {cs : List Value} {x : PT} {y : Nat}
    (SN : SL w6 F 56 4 (.slice (some ⟨g, 0, none⟩) ((R j).m + 1) cap) ((R j).m + 1) (fun i => if i < (R j).m then E i else cs)) (hg : z.grownBy w6 (f.tv j).ownBlock) (hat : (f.tv j).ownBlock = some g ∨ g = z.heap.size) (hc : TC z F cs x y) :
    DU (w6.setCell ⟨rg, j * 10 + 1, none⟩ (.slice (some ⟨g, 0, none⟩) ((R j).m + 1) cap)) F { f with tv := fun i => if i = j then .slice (some ⟨g, 0, none⟩) ((R j).m + 1) cap else f.tv i } mx c0 c1 c2 vn V (fun i => if i = j then (R i).push x y else R i) S ∧ KF f.has ({ f with tv := fun i => if i = j then .slice (some ⟨g, 0, none⟩) ((R j).m + 1) cap else f.tv i } : Fp).has z (w6.setCell ⟨rg, j * 10 + 1, none⟩ (.slice (some ⟨g, 0, none⟩) ((R j).m + 1) cap)) := by
  have hn := hS.noW (show 56 ≠ 119 by decide)
  obtain ⟨Er, s1, s2⟩ := h.r
  obtain ⟨Ev, v1, v2⟩ := h.v
  have s3 := s1.kept hg (fun k e e2 => s1.ne2 hS (by decide) k e e2)
  have O : Off rg w6 (w6.setCell ⟨rg, j * 10 + 1, none⟩ (.slice (some ⟨g, 0, none⟩) ((R j).m + 1) cap)) := (Off.refl _ _).set _ _
  have hrg : f.rv.ownBlock = some rg := by rw [hrv]; rfl
  have hn2 : NoW w6 (some rg) := by rw [← hrg]; exact s3.noW (by decide)
  have hT2 : ∀ q, q < f.rn → q ≠ j → TL (w6.setCell ⟨rg, j * 10 + 1, none⟩ (.slice (some ⟨g, 0, none⟩) ((R j).m + 1) cap)) F (f.tv q) (R q).m (R q).t (R q).Z := fun q hq hne => by
    have t0 := h.t q hq
    have t3 := t0.keep hn (fun k e e2 => h.ne q j hq hj hne k e e2) hg
    obtain ⟨Et', t4, t5⟩ := id t3
    exact t3.keep hn2 (fun k e e2 => t4.ne2 s3 (by decide) k e (by rw [hrg]; exact e2)) O.grown
  have hrwz := h.rw.kept hg (fun e => hS.neR h.rw (by decide) e)
  have hDrg : f.D ≠ rg := fun e => s3.neR hrwz (by decide) (by rw [hrg, e])
  refine ⟨⟨hrwz.off O hDrg, ⟨Ev, ?_, fun q hq => ((v2 q hq).keep hn hg).keep hn2 O.grown⟩, ⟨fun i => if i = j then (Er i).set 1 (.slice (some ⟨g, 0, none⟩) ((R j).m + 1) cap) else Er i, ?_, fun q hq => ?_⟩, fun q hq => ?_, ?_, h.lo⟩, ?_⟩
  · have v3 := v1.kept hg (fun k e e2 => v1.ne2 hS (by decide) k e e2)
    exact v3.kept O.grown (fun k e e2 => v3.ne2 s3 (by decide) k e (by rw [hrg]; exact e2))
  · show SL _ F _ 10 f.rv f.rn _
    rw [hrv] at s3 ⊢
    refine SL.put s3 hj (by decide) (fun q hq hne => by simp [hne]) (fun i u hu => ?_)
    simp only [if_true] at hu
    by_cases e : i = 1
    · subst e
      rw [List.getElem?_set] at hu
      simp only [if_true] at hu
      split at hu
      · exact .inl ⟨rfl, (Option.some.inj hu).symm⟩
      · cases hu
    · rw [List.getElem?_set_ne (fun e2 => e e2.symm)] at hu
      exact .inr ⟨e, hu⟩
  · obtain ⟨p, a, n, k, d, m, l, e, gg⟩ := s2 q hq
    have gk := (gg.keep hn hg).keep hn2 O.grown
    by_cases hq2 : q = j
    · subst hq2
      simp only [if_true]
      exact ⟨p, a, n, k, d, m, l, by rw [e]; rfl, gk⟩
    · simp only [hq2, if_false]
      exact ⟨p, a, n, k, d, m, l, e, gk⟩
  · by_cases hq2 : q = j
    · subst hq2
      simp only [if_true]
      refine ⟨_, SN.kept O.grown (fun k e e2 => SN.ne2 s3 (by decide) k e (by rw [hrg]; exact e2)), fun i hi => ?_⟩
      show TC _ F (if i < (R q).m then E i else cs) (if i < (R q).m then (R q).t i else x) (if i < (R q).m then (R q).Z i else y)
      by_cases e : i < (R q).m
      · simp only [e, if_true]
        exact ((hE i e).keep hn hg).keep hn2 O.grown
      · simp only [e, if_false]
        exact (hc.keep hn hg).keep hn2 O.grown
    · simp only [hq2, if_false]
      exact hT2 q hq hq2
  · have hnew : ∀ q, q < f.rn → q ≠ j → (f.tv q).ownBlock ≠ some g := fun q hq hne e => by
      rcases hat with e2 | e2
      · exact h.ne q j hq hj hne g e e2
      · obtain ⟨Et, t1, _⟩ := h.t q hq
        have := (t1.lt g e).2
        omega
    intro i i' hi hi' hne k e1 e2
    by_cases h1 : i = j
    · subst h1
      simp only [if_true] at e1
      simp only [Ne.symm hne, if_false] at e2
      simp [Value.ownBlock] at e1
      subst e1
      exact hnew i' hi' (Ne.symm hne) e2
    · simp only [h1, if_false] at e1
      by_cases h2 : i' = j
      · subst h2
        simp only [if_true] at e2
        simp [Value.ownBlock] at e2
        subst e2
        exact hnew i hi h1 e1
      · simp only [h2, if_false] at e2
        exact h.ne i i' hi hi' hne k e1 e2
  · refine KF.of2 hg O (fun k e => .inr (.inr (.inr ⟨j, hj, e⟩))) (.inr (.inr (.inl hrg))) ?_
    rintro k (e | e | e | ⟨i, hi, e⟩)
    · exact .inl (.inl e)
    · exact .inl (.inr (.inl e))
    · exact .inl (.inr (.inr (.inl e)))
    · by_cases h1 : i = j
      · subst h1
        simp only [if_true] at e
        simp [Value.ownBlock] at e
        subst e
        rcases hat with e | e
        · exact .inl (.inr (.inr (.inr ⟨i, hi, e⟩)))
        · exact .inr (Nat.le_of_eq e.symm)
      · simp only [h1, if_false] at e
        exact .inl (.inr (.inr (.inr ⟨i, hi, e⟩)))
/-- One more row, with no terms. -/
theorem DU.addR {z w6 : World} {F : Nat} {f : Fp} {mx : Bool} {c0 c1 c2 : Value} {vn : Nat} {V : Nat → DV} {R : Nat → DR} {S : Nat} (h : DU z F f mx c0 c1 c2 vn V R S) {E : Nat → List Value} (hS : SL z F 59 10 f.rv f.rn E) (hE : ∀ q, q < f.rn → RD z (E q) (f.tv q) (R q) S) {g cap : Nat} {cs : List Value} {r : DR}
    (SN : SL w6 F 59 10 (.slice (some ⟨g, 0, none⟩) (f.rn + 1) cap) (f.rn + 1) (fun i => if i < f.rn then E i else cs)) (hg : z.grownBy w6 f.rv.ownBlock) (hat : f.rv.ownBlock = some g ∨ g = z.heap.size) (hc : RD z cs (.slice none 0 0) r S) (hr : r.m = 0) :
    DU (w6.setCell ⟨f.D, 6, none⟩ (.slice (some ⟨g, 0, none⟩) (f.rn + 1) cap)) F { f with rv := .slice (some ⟨g, 0, none⟩) (f.rn + 1) cap, rn := f.rn + 1, tv := fun j => if j < f.rn then f.tv j else .slice none 0 0 } mx c0 c1 c2 vn V (fun i => if i < f.rn then R i else r) S ∧ KF f.has ({ f with rv := .slice (some ⟨g, 0, none⟩) (f.rn + 1) cap, rn := f.rn + 1, tv := fun j => if j < f.rn then f.tv j else .slice none 0 0 } : Fp).has z (w6.setCell ⟨f.D, 6, none⟩ (.slice (some ⟨g, 0, none⟩) (f.rn + 1) cap)) := by
  have hn := hS.noW (show 59 ≠ 119 by decide)
  have RZ := h.rw.kept hg (hS.neR h.rw (by decide))
  obtain ⟨RN, O⟩ := RZ.set 6 (.slice (some ⟨g, 0, none⟩) (f.rn + 1) cap)
  have hn2 : NoW w6 (some f.D) := RZ.noW (by decide)
  obtain ⟨E', s1, s2⟩ := h.v
  refine ⟨⟨by simpa using RN, ⟨E', ?_, fun q hq => ((s2 q hq).keep hn hg).keep hn2 O.grown⟩, ⟨_, SN.kept O.grown (fun k e e2 => SN.neR RZ (by decide) (by rw [e]; exact e2.symm)), fun q hq => ?_⟩, fun q hq => ?_, ?_, h.lo⟩, ?_⟩
  · have s3 := s1.kept hg (fun k e e2 => s1.ne2 hS (by decide) k e e2)
    exact s3.kept O.grown (fun k e e2 => s3.neR RZ (by decide) (by rw [e]; exact e2.symm))
  · by_cases e : q < f.rn
    · simp only [e, if_true]
      exact ((hE q e).keep hn hg).keep hn2 O.grown
    · simp only [e, if_false]
      exact (hc.keep hn hg).keep hn2 O.grown
  · by_cases e : q < f.rn
    · simp only [e, if_true]
      have t0 := h.t q e
      obtain ⟨Et, t1, t2⟩ := id t0
      have t3 := t0.keep hn (fun k e e2 => t1.ne2 hS (by decide) k e e2) hg
      obtain ⟨Et', t4, t5⟩ := id t3
      exact t3.keep hn2 (fun k e e2 => t4.neR RZ (by decide) (by rw [e]; exact e2.symm)) O.grown
    · simp only [e, if_false, hr]
      exact ⟨fun _ => [], SL.nil _ _ _ _ _, fun i hi => by omega⟩
  · intro i i' hi hi' hne k e1 e2
    by_cases h1 : i < f.rn
    · by_cases h2 : i' < f.rn
      · simp only [h1, if_true] at e1
        simp only [h2, if_true] at e2
        exact h.ne i i' h1 h2 hne k e1 e2
      · simp only [h2, if_false] at e2
        cases e2
    · simp only [h1, if_false] at e1
      cases e1
  · refine KF.of2 hg O (fun k e => .inr (.inr (.inl e))) (.inl rfl) ?_
    rintro k (e | e | e | ⟨j, hj, e⟩)
    · exact .inl (.inl e)
    · exact .inl (.inr (.inl e))
    · simp [Value.ownBlock] at e
      subst e
      rcases hat with e | e
      · exact .inl (.inr (.inr (.inl e)))
      · exact .inr (Nat.le_of_eq e.symm)
    · by_cases h1 : j < f.rn
      · simp only [h1, if_true] at e
        exact .inl (.inr (.inr (.inr ⟨j, h1, e⟩)))
      · simp only [h1, if_false] at e
        cases e
/-- The rows with the terms of a row of the other problem told, the first q of them. -/
def pushs (R : Nat → DR) (n : Nat) (s : Bool) (t : Nat → PT) (Z : Nat → Nat) : Nat → Nat → DR
  | 0 => R
  | q + 1 => fun j => if j = (t q).var.toNat then (pushs R n s t Z q j).push ⟨(n : Int), dsg s (t q).coef⟩ (Z q) else pushs R n s t Z q j
theorem pushs_m (R : Nat → DR) (n : Nat) (s : Bool) (t : Nat → PT) (Z : Nat → Nat) (j : Nat) : ∀ q, (pushs R n s t Z q j).m ≤ (R j).m + q
  | 0 => Nat.le_refl _
  | q + 1 => by
    have := pushs_m R n s t Z j q
    show (if j = (t q).var.toNat then (pushs R n s t Z q j).push ⟨(n : Int), dsg s (t q).coef⟩ (Z q) else pushs R n s t Z q j).m ≤ _
    split
    · show (pushs R n s t Z q j).m + 1 ≤ _
      omega
    · omega
/-- A function that gives a number in a sense. -/
structure SF (fN : FuncId) (s : Bool) : Prop where
  fn : FnE fN
  call : ∀ {p : Bool} {a : Option Addr} {na ca : Nat} {d : Option Addr} {nd cd : Nat} {r : Rat} {S : Nat} (w : World), TR w p a na ca d nd cd r S → S ≤ 7000000 → 1 ≤ S → TB w → Calls Tryz.prog fN #[.agg #[.bool p, .slice a na ca, .slice d nd cd]] w fun e w' => ∃ f c n k c' n' k', e = .returned (.agg #[.bool f, .slice c n k, .slice c' n' k']) ∧ GR w' w.heap.size f c n k c' n' k' (dsg s r) S ∧ Below w.heap.size w w'
theorem sf_norm : SF 28 false := ⟨fe9, fun w h1 h2 h3 h4 => normR w h1 h2 h3 h4⟩
theorem sf_neg : SF 31 true := ⟨fe10, fun w h1 h2 h3 h4 => negQ w h1 h2 h3 h4⟩
theorem wp_sense {o : Oper} {a : Act} {w : World} {K : Act → World → Prop} {Q : Exit → Act → World → Prop} (x y : Operand) (ats : Array TypeId) (ho : o.op = .call { callee := .value x, args := #[y], argTypes := ats }) {fN : FuncId} {s : Bool} (hf : SF fN s) (hx : a.eval x = .func (.func fN) #[] #[])
    {p : Bool} {c : Option Addr} {nc kc : Nat} {d : Option Addr} {nd cd : Nat} {r : Rat} {S : Nat} (hy : a.eval y = .agg #[.bool p, .slice c nc kc, .slice d nd cd]) (hr : TR w p c nc kc d nd cd r S) (hS : S ≤ 7000000) (hS1 : 1 ≤ S) (hT : TB w)
    (hK : ∀ f c1 n1 k1 d1 m1 l1 w', GR w' w.heap.size f c1 n1 k1 d1 m1 l1 (dsg s r) S → Below w.heap.size w w' → K (a.put o.dst (.agg #[.bool f, .slice c1 n1 k1, .slice d1 m1 l1])) w') : Oper.wp Tryz.prog o a w K Q := by
  refine wp_callV x #[y] ats fN #[] ho hx hf.fn (Post := fun e w' => ∃ f c n k c' n' k', e = .returned (.agg #[.bool f, .slice c n k, .slice c' n' k']) ∧ GR w' w.heap.size f c n k c' n' k' (dsg s r) S ∧ Below w.heap.size w w') ?_ ?_
  · have e : (#[y].map a.eval ++ #[] : Array Value) = #[.agg #[.bool p, .slice c nc kc, .slice d nd cd]] := by simp [hy]
    rw [e]
    exact hf.call w hr hS hS1 hT
  · rintro e w' ⟨f, c1, n1, k1, d1, m1, l1, rfl, G, hb⟩
    exact ⟨_, rfl, hK _ _ _ _ _ _ _ _ G hb⟩
theorem TB.bF {w w' : World} {F : Nat} (h : TB w) (hg : 3 < F) (hb : Below F w w') : TB w' :=
  ⟨fun j hj => by rw [World.cell?_of_block (w := w) (hb.block _ hg)]; exact h.1 j hj, Nat.lt_of_lt_of_le h.2 hb.size⟩
theorem Rw.kf {C C' : Nat → Prop} {w w' : World} {T : TypeId} {R : Nat} {cs : Array Value} (h : Rw T w R cs) (hk : KF C C' w w') (hR : ¬ C R) : Rw T w' R cs := (hk.blk R h.lt hR).trans h
/-- What a dual holds so far. -/
structure DS where
  vn : Nat
  V : Nat → DV
  R : Nat → DR
def DS.add (x : DS) (nm : ByteArray) (s : Bool) (r : Rat) (Sr : Nat) (t : Nat → PT) (Z : Nat → Nat) (nt : Nat) : DS := ⟨x.vn + 1, fun i => if i < x.vn then x.V i else ⟨nm, dsg s r, Sr⟩, pushs x.R x.vn s t Z nt⟩
def DS.opt (x : DS) (h : Bool) (nm : ByteArray) (s : Bool) (r : Rat) (Sr : Nat) (t : Nat → PT) (Z : Nat → Nat) (nt : Nat) : DS := if h then x.add nm s r Sr t Z nt else x
abbrev DX (w : World) (F : Nat) (f : Fp) (mx : Bool) (c0 c1 c2 : Value) (x : DS) (S : Nat) : Prop := DU w F f mx c0 c1 c2 x.vn x.V x.R S
end Go.Proofs.YtkgnbcbcgnlodaaGreatDoor

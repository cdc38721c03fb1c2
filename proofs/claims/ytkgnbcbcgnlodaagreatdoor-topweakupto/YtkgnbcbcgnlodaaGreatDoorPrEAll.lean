import Derived.Test.YtkgnbcbcgnlodaaGreatDoorRatAll
import Derived.Test.YtkgnbcbcgnlodaaGreatDoorNumAll
import Derived.Test.YtkgnbcbcgnlodaaGreatDoorPrD
import Derived.Test.YtkgnbcbcgnlodaaGreatDoorLxZ
import Derived.Test.YtkgnbcbcgnlodaaGreatDoorWhEAll
import Derived.Test.YtkgnbcbcgnlodaaGreatDoorDivAll
namespace Go.Proofs.YtkgnbcbcgnlodaaGreatDoor
open Go.RowKit

/-- A variable of several cells, in block R. -/
def Rw (t : TypeId) (w : World) (R : Nat) (cs : Array Value) : Prop := w.heap[R]? = some (.cells cs t (0, 0))
theorem Rw.lt {t : TypeId} {w : World} {R : Nat} {cs : Array Value} (h : Rw t w R cs) : R < w.heap.size := (Array.getElem?_eq_some_iff.1 h).1
theorem Rw.new (t : TypeId) (w : World) (cs : Array Value) : Rw t (w.alloc (.cells cs t)) w.heap.size cs := heap_alloc_new _ _
theorem Rw.below {t : TypeId} {w w' : World} {R : Nat} {cs : Array Value} (h : Rw t w R cs) (hb : Below w.heap.size w w') : Rw t w' R cs := (hb.block R h.lt).trans h
theorem Rw.off {t : TypeId} {w w' : World} {R g : Nat} {cs : Array Value} (h : Rw t w R cs) (o : Off g w w') (hg : R ≠ g) : Rw t w' R cs := (o.block R hg).trans h
theorem Rw.cell {t : TypeId} {w : World} {R : Nat} {cs : Array Value} (h : Rw t w R cs) (j : Nat) : w.cell? ⟨R, j, none⟩ = cs[j]? := cell_of_row w R j cs t _ h
theorem Rw.frozen {t : TypeId} {w : World} {R : Nat} {cs : Array Value} (h : Rw t w R cs) (j : Nat) : w.frozen? ⟨R, j, none⟩ = false := frozen_of_row w R j cs t h
theorem Rw.row {t : TypeId} {w : World} {R : Nat} {cs : Array Value} (h : Rw t w R cs) (cs' : Array Value) : Rw t (w.setRow R cs') R cs' ∧ Off R w (w.setRow R cs') :=
  ⟨setRow_heap w R cs cs' t _ h, ⟨rfl, rfl, rfl, by simp, fun k hk => setRow_other w R k cs' hk⟩⟩
theorem Rw.put {t : TypeId} {w : World} {R : Nat} {old : Array Value} (h : Rw t w R old) (cs : Array Value) {ops : Array Oper} {rest : List Oper} {o : Oper} {a : Act} {Q : Exit → Act → World → Prop} (hgd : o.guard = none) (x y : Operand) (ho : o.op = .store t x y)
    (hx : a.eval x = .pointer (some ⟨R, 0, none⟩)) (hy : a.eval y = .agg cs) (hi : (Tryz.prog.info? t).map (·.size) = some cs.size) (hold : old.size = cs.size) (h1 : cs.all (·.oneCell') = true)
    (hK : ∀ w', Rw t w' R cs → Off R w w' → wpList Tryz.prog ops Q rest (a.put o.dst undef) w') : wpList Tryz.prog ops Q (o :: rest) a w :=
  wpList_store_row hgd t x y ho R cs hx hy t old h hi hold h1 (hK _ (h.row cs).1 (h.row cs).2)
theorem Rw.get {t : TypeId} {w : World} {R : Nat} {cs : Array Value} (h : Rw t w R cs) {ops : Array Oper} {rest : List Oper} {o : Oper} {a : Act} {Q : Exit → Act → World → Prop} (hgd : o.guard = none) (x : Operand) (ho : o.op = .load t x)
    (hx : a.eval x = .pointer (some ⟨R, 0, none⟩)) {fs} (hu : Tryz.prog.underlying t = some (.struct fs)) (hi : (Tryz.prog.info? t).map (·.size) = some cs.size)
    (hK : wpList Tryz.prog ops Q rest (a.put o.dst (.agg cs)) w) : wpList Tryz.prog ops Q (o :: rest) a w :=
  wpList_load_row hgd t x ho R hx t cs _ (.struct fs) h hu rfl hi hK
theorem Rw.ret1 {fn : Func} {p : Tmp} {ty : TypeId} (h : fn.results = #[.cell p ty]) (tmps : Array Value) {w : World} {g : Nat} {cs : Array Value} (hr : Rw ty w g cs)
    (hp : tmps.getD p undef = .pointer (some ⟨g, 0, none⟩)) {fs} (hu : Tryz.prog.underlying ty = some (.struct fs)) (hi : (Tryz.prog.info? ty).map (·.size) = some cs.size) :
    (results fn tmps).run Tryz.prog w = .ok (.agg cs) w := results_cell_row h tmps w g ty cs _ (.struct fs) hp hr hu rfl hi
end Go.Proofs.YtkgnbcbcgnlodaaGreatDoor

namespace Go.Proofs.YtkgnbcbcgnlodaaGreatDoor
open Go.RowKit

theorem Rw.set {t : TypeId} {w : World} {R : Nat} {cs : Array Value} (h : Rw t w R cs) (i : Nat) (v : Value) : Rw t (w.setCell ⟨R, i, none⟩ v) R (cs.setIfInBounds i v) ∧ Off R w (w.setCell ⟨R, i, none⟩ v) := by
  refine ⟨?_, (Off.refl _ _).set i v⟩
  unfold Rw at *
  simp [World.setCell, Array.getElem?_modify, h]
/-- A bound's number: nought, where it has none. -/
def bat (h : Bool) (r : Rat) : Rat := if h then r else 0
theorem bndI : (Tryz.prog.info? 52).map (·.size) = some 4 := by kernel_rfl
set_option maxRecDepth 100000 in
set_option maxHeartbeats 4000000 in
theorem tidyBoundQ {h p : Bool} {a : Option Addr} {na ca : Nat} {d : Option Addr} {nd cd : Nat} {r : Rat} {S : Nat} (w : World) (hr : TR w p a na ca d nd cd r S) (hS : S ≤ 7000000) (hS1 : 1 ≤ S) (hT : TB w) :
    Calls Tryz.prog 54 #[.agg #[.bool h, .bool p, .slice a na ca, .slice d nd cd]] w fun e w' => ∃ f c n k c' n' k', e = .returned (.agg #[.bool h, .bool f, .slice c n k, .slice c' n' k']) ∧ GR w' w.heap.size f c n k c' n' k' (bat h r) S ∧ Below w.heap.size w w' := by
  have N := box_new w #[.bool h, .bool p, .slice a na ca, .slice d nd cd] 52
  have hz := bel_d0 w (.cells #[.bool h, .bool p, .slice a na ca, .slice d nd cd] 52)
  have hs : (w.alloc (.cells #[.bool h, .bool p, .slice a na ca, .slice d nd cd] 52)).heap.size = w.heap.size + 1 := by simp
  have R0 := Rw.new 52 (w.alloc (.cells #[.bool h, .bool p, .slice a na ca, .slice d nd cd] 52)) #[.bool false, .bool false, .slice none 0 0, .slice none 0 0]
  rw [hs] at R0
  replace N := N.below (bel_d0 (w.alloc (.cells #[.bool h, .bool p, .slice a na ca, .slice d nd cd] 52)) (.cells #[.bool false, .bool false, .slice none 0 0, .slice none 0 0] 52))
  replace hz := bel_tr hz (bel_d0 (w.alloc (.cells #[.bool h, .bool p, .slice a na ca, .slice d nd cd] 52)) (.cells #[.bool false, .bool false, .slice none 0 0, .slice none 0 0] 52))
  clear hs
  have n0 := N 0 _ rfl
  have n1 := N 1 _ rfl
  have n2 := N 2 _ rfl
  have n3 := N 3 _ rfl
  clear N
  have hr1 := hr.below hz
  have hT1 := hT.below hz
  go_enter Tryz.func54, Tryz.ntmps54
  cases h with
  | false =>
    go_wp2_with fail
    refine (ofQ 0 _ (by decide) (by decide)).mono ?_
    rintro e w2 ⟨f, c, n, k, c', n', k', rfl, G, hb⟩
    have R1 := R0.below hb
    go_wp2_with (refine R1.put #[.bool false, .bool f, .slice c n k, .slice c' n' k'] rfl _ _ rfl rfl rfl bndI rfl (by simp [Value.oneCell']) ?_)
    intro w3 R2 O2
    go_wp2
    have hs1 := hz.size
    have hs2 := hb.size
    have hs3 := R0.lt
    have G2 := G.off O2 (by omega)
    have hb3 : Below w.heap.size w w3 := (bel_tr hz hb).trans (O2.below (by omega))
    have e0 : ((0 : Int) : Rat) = bat false r := rfl
    exact bodyPost_ret (R2.ret1 Tryz.results54 _ rfl Tryz.underlying52 bndI) rfl ⟨f, c, n, k, c', n', k', rfl, ((G2.mono (by omega)).le hS1).val e0, hb3⟩
  | true =>
    go_wp2_with fail
    refine (normR _ hr1 hS hS1 hT1).mono ?_
    rintro e w2 ⟨f, c, n, k, c', n', k', rfl, G, hb⟩
    have R1 := R0.below hb
    go_wp2_with (refine R1.put #[.bool true, .bool f, .slice c n k, .slice c' n' k'] rfl _ _ rfl rfl rfl bndI rfl (by simp [Value.oneCell']) ?_)
    intro w3 R2 O2
    go_wp2
    have hs1 := hz.size
    have hs2 := hb.size
    have hs3 := R0.lt
    have G2 := G.off O2 (by omega)
    have hb3 : Below w.heap.size w w3 := (bel_tr hz hb).trans (O2.below (by omega))
    exact bodyPost_ret (R2.ret1 Tryz.results54 _ rfl Tryz.underlying52 bndI) rfl ⟨f, c, n, k, c', n', k', rfl, G2.mono (by omega), hb3⟩
end Go.Proofs.YtkgnbcbcgnlodaaGreatDoor

namespace Go.Proofs.YtkgnbcbcgnlodaaGreatDoor
open Go.RowKit

theorem Off.grown {R : Nat} {w w' : World} (h : Off R w w') : w.grownBy w' (some R) := ⟨h.os, h.tape, h.output, Nat.le_of_eq h.size.symm, fun k _ hk => h.block k fun e => hk (by rw [e])⟩
/-- The block that is written holds no words. -/
def NoW (w : World) (row : Option Nat) : Prop := ∀ g, row = some g → ∃ cur T, w.heap[g]? = some (.cells cur T (0, 0)) ∧ T ≠ 119
theorem Rw.noW {t : TypeId} {w : World} {R : Nat} {cs : Array Value} (h : Rw t w R cs) (ht : t ≠ 119) : NoW w (some R) := fun g e => by cases e; exact ⟨cs, t, h, ht⟩
theorem SL.noW {w : World} {B : Nat} {T : TypeId} {c : Nat} {v : Value} {n : Nat} {E : Nat → List Value} (h : SL w B T c v n E) (ht : T ≠ 119) : NoW w v.ownBlock := by
  intro g e
  obtain ⟨vs, h1, _⟩ := h
  rcases h1.2 with ⟨rfl, _⟩ | ⟨g', cap, cur, e1, _, f1, _⟩
  · cases e
  · subst e1
    simp [Value.ownBlock] at e
    subst e
    exact ⟨cur, T, f1, ht⟩
theorem Got.keep {w w' : World} {B : Nat} {v : Value} {x : Int} {S : Nat} (h : Got w B v x S) {row : Option Nat} (hn : NoW w row) (hg : w.grownBy w' row) : Got w' B v x S := by
  obtain ⟨xs, h1, h2⟩ := h
  refine ⟨xs, World.ownsRow.kept h1 hg ?_, h2⟩
  rcases h1.2 with ⟨e1, _⟩ | ⟨g1, c1, cur1, e1, _, f1, _⟩
  · subst e1; exact .inl rfl
  · refine .inr fun e => ?_
    subst e1
    obtain ⟨cur, T, f2, hT⟩ := hn g1 (by rw [← e]; rfl)
    rw [f1] at f2
    simp only [Option.some.injEq, Obj.cells.injEq] at f2
    exact hT f2.2.1.symm
theorem GR.keep {w w' : World} {B : Nat} {f : Bool} {c : Option Addr} {n k : Nat} {c' : Option Addr} {n' k' : Nat} {r : Rat} {S : Nat} (h : GR w B f c n k c' n' k' r S) {row : Option Nat} (hn : NoW w row) (hg : w.grownBy w' row) : GR w' B f c n k c' n' k' r S := by
  refine ⟨?_, h.2.keep hn hg⟩
  obtain ⟨a, n2, c2, h1, h2⟩ := h.1
  exact ⟨a, n2, c2, h1, h2.keep hn hg⟩
theorem Rw.kept {t : TypeId} {w w' : World} {R : Nat} {cs : Array Value} (h : Rw t w R cs) {row : Option Nat} (hg : w.grownBy w' row) (hne : row ≠ some R) : Rw t w' R cs := (hg.block R h.lt (fun e => hne e.symm)).trans h
theorem SL.neR {w : World} {B : Nat} {T t : TypeId} {c : Nat} {v : Value} {n : Nat} {E : Nat → List Value} (h : SL w B T c v n E) {R : Nat} {cs : Array Value} (hr : Rw t w R cs) (ht : T ≠ t) : v.ownBlock ≠ some R := by
  intro e
  obtain ⟨vs, h1, _⟩ := h
  rcases h1.2 with ⟨rfl, _⟩ | ⟨g', cap, cur, e1, _, f1, _⟩
  · cases e
  · subst e1
    simp [Value.ownBlock] at e
    subst e
    unfold Rw at hr
    rw [f1] at hr
    simp only [Option.some.injEq, Obj.cells.injEq] at hr
    exact ht hr.2.1
theorem Rw.set7 {t : TypeId} {w : World} {R : Nat} {a0 a1 a2 a3 a4 a5 a6 : Value} (h : Rw t w R #[a0, a1, a2, a3, a4, a5, a6]) (b0 b1 b2 b3 b4 b5 b6 : Value) :
    Rw t (((((((w.setCell ⟨R, 0, none⟩ b0).setCell ⟨R, 1, none⟩ b1).setCell ⟨R, 2, none⟩ b2).setCell ⟨R, 3, none⟩ b3).setCell ⟨R, 4, none⟩ b4).setCell ⟨R, 5, none⟩ b5).setCell ⟨R, 6, none⟩ b6) R #[b0, b1, b2, b3, b4, b5, b6] ∧
    Off R w (((((((w.setCell ⟨R, 0, none⟩ b0).setCell ⟨R, 1, none⟩ b1).setCell ⟨R, 2, none⟩ b2).setCell ⟨R, 3, none⟩ b3).setCell ⟨R, 4, none⟩ b4).setCell ⟨R, 5, none⟩ b5).setCell ⟨R, 6, none⟩ b6) := by
  refine ⟨?_, ((((((Off.refl _ _).set 0 b0).set 1 b1).set 2 b2).set 3 b3).set 4 b4).set 5 b5 |>.set 6 b6⟩
  have := (((((((h.set 0 b0).1.set 1 b1).1.set 2 b2).1.set 3 b3).1.set 4 b4).1.set 5 b5).1.set 6 b6).1
  simpa using this
theorem Near.grown {g : Nat} {a b c : World} (h : Near g a b) {row : Option Nat} (hg : b.grownBy c row) (hr : ∀ k, row = some k → a.heap.size ≤ k) : Near g a c :=
  ⟨hg.os.trans h.os, hg.tape.trans h.tape, hg.output.trans h.output, Nat.le_trans h.size hg.size, fun k hk hne => (hg.block k (Nat.lt_of_lt_of_le hk h.size) (fun e => by have := hr k e.symm; omega)).trans (h.block k hk hne)⟩
theorem Near.grow {g : Nat} {a b : World} (h : Near g a b) : a.grownBy b (some g) := ⟨h.os, h.tape, h.output, h.size, fun k hk hne => h.block k hk (fun e => hne (by rw [e]))⟩
theorem Near.box {g : Nat} {a b : World} (h : Near g a b) {R : Nat} {cs : List Value} (hB : BoxC a R cs) (hR : R < a.heap.size) (hne : R ≠ g) : BoxC b R cs := fun i u hu => (World.cell?_of_block (w := a) (h.block R hR hne)).trans (hB i u hu)
theorem Near.rw {g : Nat} {a b : World} (h : Near g a b) {t : TypeId} {R : Nat} {cs : Array Value} (hB : Rw t a R cs) (hne : R ≠ g) : Rw t b R cs := (h.block R hB.lt hne).trans hB
/-- 'append(v, x)' by itself. -/
theorem wp_appendS (w : World) {o : Oper} {a : Act} {K : Act → World → Prop} {Q : Exit → Act → World → Prop} (s x : Operand) (L T : TypeId) (c y : Nat)
    (ho : o.op = .call { callee := .builtin .append, args := #[s, x], argTypes := #[L, L] }) (hL : Tryz.prog.underlying L = some (.slice T)) (hI : Inf T c y) (hc0 : 0 < c) (hy : y ≤ 1000)
    (B : Nat) (v : Value) (n : Nat) (E : Nat → List Value) (hs : a.eval s = v) (hown : SL w B T c v n E) (h k : Nat) (hx : a.eval x = .slice (some ⟨h, 0, none⟩) 1 k)
    (cs : List Value) (hcs : cs.length = c) (h1 : ∀ u ∈ cs, u.oneCell' = true) (hbox : BoxC w h cs)
    (hlen : n ≤ 1000000000) (hB : B ≤ w.heap.size) (H : Nat) (hH : w.heap.size = H)
    (hK : ∀ g cap w', SL w' B T c (.slice (some ⟨g, 0, none⟩) (n + 1) cap) (n + 1) (fun i => if i < n then E i else cs) → w.grownBy w' v.ownBlock → (v.ownBlock = some g ∨ g = H) → g < w'.heap.size → K (a.put o.dst (.slice (some ⟨g, 0, none⟩) (n + 1) cap)) w') :
    Oper.wp Tryz.prog o a w K Q := by
  obtain ⟨vs, g1, g2⟩ := hown
  obtain ⟨i0, z, hi, hz, hs3, hb56, hz3⟩ := hI
  have hyn : (n + 1) * y ≤ 1000000001 * 1000 := Nat.mul_le_mul (by omega) hy
  refine wp_append_lies w s x L ho B T i0 z c y hL hi hz hs3 hb56 hz3 hc0 v n vs hs g1 ⟨h, 0, none⟩ 1 k cs hx (by omega) ?_ h1 (by decide) (by unfold maxLen; omega) (by omega) hB H hH ?_
  · intro j u hj
    have := hbox j u hj
    by_cases e : j = 0
    · subst e; simpa [Addr.add] using this
    · simpa [Addr.add, e] using this
  · intro g cap w' r1 r2 r3 r4
    exact hK g cap w' ⟨_, r1, sl_app g1.1 hcs g2⟩ r2 r3 r4
theorem prbI : (Tryz.prog.info? 31).map (·.size) = some 7 := by kernel_rfl
/-- A variable's cells, its numbers one's own. -/
def VC (w : World) (B : Nat) (cs : List Value) (v : PV) (Y : Nat) : Prop :=
  ∃ p1 a1 n1 k1 d1 m1 l1 p2 a2 n2 k2 d2 m2 l2 p3 a3 n3 k3 d3 m3 l3, cs = [.string v.nm, .bool p1, .slice a1 n1 k1, .slice d1 m1 l1, .bool v.hlo, .bool p2, .slice a2 n2 k2, .slice d2 m2 l2, .bool v.hhi, .bool p3, .slice a3 n3 k3, .slice d3 m3 l3, .bool v.whole] ∧
    GR w B p1 a1 n1 k1 d1 m1 l1 v.obj Y ∧ GR w B p2 a2 n2 k2 d2 m2 l2 (bat v.hlo v.lo) Y ∧ GR w B p3 a3 n3 k3 d3 m3 l3 (bat v.hhi v.hi) Y
theorem VC.below {w w' : World} {B : Nat} {cs : List Value} {v : PV} {Y : Nat} (h : VC w B cs v Y) (hb : Below w.heap.size w w') : VC w' B cs v Y := by
  obtain ⟨p1, a1, n1, k1, d1, m1, l1, p2, a2, n2, k2, d2, m2, l2, p3, a3, n3, k3, d3, m3, l3, e, g1, g2, g3⟩ := h
  exact ⟨p1, a1, n1, k1, d1, m1, l1, p2, a2, n2, k2, d2, m2, l2, p3, a3, n3, k3, d3, m3, l3, e, g1.below hb, g2.below hb, g3.below hb⟩
theorem VC.keep {w w' : World} {B : Nat} {cs : List Value} {v : PV} {Y : Nat} (h : VC w B cs v Y) {row : Option Nat} (hn : NoW w row) (hg : w.grownBy w' row) : VC w' B cs v Y := by
  obtain ⟨p1, a1, n1, k1, d1, m1, l1, p2, a2, n2, k2, d2, m2, l2, p3, a3, n3, k3, d3, m3, l3, e, g1, g2, g3⟩ := h
  exact ⟨p1, a1, n1, k1, d1, m1, l1, p2, a2, n2, k2, d2, m2, l2, p3, a3, n3, k3, d3, m3, l3, e, g1.keep hn hg, g2.keep hn hg, g3.keep hn hg⟩
theorem TC.keep {w w' : World} {B : Nat} {cs : List Value} {t : PT} {Y : Nat} (h : TC w B cs t Y) {row : Option Nat} (hn : NoW w row) (hg : w.grownBy w' row) : TC w' B cs t Y := by
  obtain ⟨p, a, na, ca, d, nd, cd, e, g⟩ := h
  exact ⟨p, a, na, ca, d, nd, cd, e, g.keep hn hg⟩
theorem TL.below {w w' : World} {B : Nat} {v : Value} {m : Nat} {u : Nat → PT} {Y : Nat → Nat} (h : TL w B v m u Y) (hb : Below w.heap.size w w') : TL w' B v m u Y := by
  obtain ⟨E, h1, h2⟩ := h
  exact ⟨E, h1.below hb, fun i hi => (h2 i hi).below hb⟩
theorem TL.keep {w w' : World} {B : Nat} {v : Value} {m : Nat} {u : Nat → PT} {Y : Nat → Nat} (h : TL w B v m u Y) {row : Option Nat} (hn : NoW w row) (hne : ∀ g, v.ownBlock = some g → row ≠ some g) (hg : w.grownBy w' row) : TL w' B v m u Y := by
  obtain ⟨E, h1, h2⟩ := h
  exact ⟨E, h1.kept hg hne, fun i hi => (h2 i hi).keep hn hg⟩
theorem TL.mono {w : World} {B B' : Nat} {v : Value} {m : Nat} {u : Nat → PT} {Y : Nat → Nat} (h : TL w B v m u Y) (hB : B' ≤ B) : TL w B' v m u Y := by
  obtain ⟨E, h1, h2⟩ := h
  exact ⟨E, h1.mono hB, fun i hi => (h2 i hi).mono hB⟩
theorem TL.form {w : World} {B : Nat} {v : Value} {m : Nat} {u : Nat → PT} {Y : Nat → Nat} (h : TL w B v m u Y) : ∃ a cap, v = .slice a m cap ∧ m ≤ cap := by
  obtain ⟨E, h1, h2⟩ := h
  exact h1.form
/-- A row's cells: its terms put together, its numbers one's own. -/
def RC (w : World) (B : Nat) (cs : List Value) (r : PW) (n : Nat) (Y : Nat) : Prop :=
  ∃ v m u Z p2 a2 n2 k2 d2 m2 l2 p3 a3 n3 k3 d3 m3 l3, cs = [.string r.nm, v, .bool r.hlo, .bool p2, .slice a2 n2 k2, .slice d2 m2 l2, .bool r.hhi, .bool p3, .slice a3 n3 k3, .slice d3 m3 l3] ∧
    Gath r.t r.nt n u m ∧ (∀ q, q < r.nt → SzR (r.t q).coef (Z q) ∧ 1 ≤ Z q) ∧ tot Z r.nt ≤ Y ∧ TL w B v m u (fun i => zs r.t Z (u i).var r.nt - 1) ∧ GR w B p2 a2 n2 k2 d2 m2 l2 (bat r.hlo r.lo) Y ∧ GR w B p3 a3 n3 k3 d3 m3 l3 (bat r.hhi r.hi) Y
theorem RC.below {w w' : World} {B : Nat} {cs : List Value} {r : PW} {n Y : Nat} (h : RC w B cs r n Y) (hb : Below w.heap.size w w') : RC w' B cs r n Y := by
  obtain ⟨v, m, u, Z, p2, a2, n2, k2, d2, m2, l2, p3, a3, n3, k3, d3, m3, l3, e, g1, z1, z2, t1, g2, g3⟩ := h
  exact ⟨v, m, u, Z, p2, a2, n2, k2, d2, m2, l2, p3, a3, n3, k3, d3, m3, l3, e, g1, z1, z2, t1.below hb, g2.below hb, g3.below hb⟩
theorem RC.keep {w w' : World} {B : Nat} {cs : List Value} {r : PW} {n Y : Nat} (h : RC w B cs r n Y) {row : Option Nat} (hn : NoW w row) (hne : ∀ g, row = some g → ∃ cur T, w.heap[g]? = some (.cells cur T (0, 0)) ∧ T ≠ 56) (hg : w.grownBy w' row) : RC w' B cs r n Y := by
  obtain ⟨v, m, u, Z, p2, a2, n2, k2, d2, m2, l2, p3, a3, n3, k3, d3, m3, l3, e, g1, z1, z2, t1, g2, g3⟩ := h
  refine ⟨v, m, u, Z, p2, a2, n2, k2, d2, m2, l2, p3, a3, n3, k3, d3, m3, l3, e, g1, z1, z2, t1.keep hn ?_ hg, g2.keep hn hg, g3.keep hn hg⟩
  intro g e1 e2
  obtain ⟨cur, T, f2, hT⟩ := hne g e2
  obtain ⟨E, ⟨vs, h1, _⟩, _⟩ := t1
  rcases h1.2 with ⟨rfl, _⟩ | ⟨g', cap, cur', e3, _, f1, _⟩
  · cases e1
  · subst e3
    simp [Value.ownBlock] at e1
    subst e1
    rw [f1] at f2
    simp only [Option.some.injEq, Obj.cells.injEq] at f2
    exact hT f2.2.1.symm
theorem VC.mono {w : World} {B B' : Nat} {cs : List Value} {v : PV} {Y : Nat} (h : VC w B cs v Y) (hB : B' ≤ B) : VC w B' cs v Y := by
  obtain ⟨p1, a1, n1, k1, d1, m1, l1, p2, a2, n2, k2, d2, m2, l2, p3, a3, n3, k3, d3, m3, l3, e, g1, g2, g3⟩ := h
  exact ⟨p1, a1, n1, k1, d1, m1, l1, p2, a2, n2, k2, d2, m2, l2, p3, a3, n3, k3, d3, m3, l3, e, g1.mono hB, g2.mono hB, g3.mono hB⟩
theorem RC.mono {w : World} {B B' : Nat} {cs : List Value} {r : PW} {n Y : Nat} (h : RC w B cs r n Y) (hB : B' ≤ B) : RC w B' cs r n Y := by
  obtain ⟨v, m, u, Z, p2, a2, n2, k2, d2, m2, l2, p3, a3, n3, k3, d3, m3, l3, e, g1, z1, z2, t1, g2, g3⟩ := h
  exact ⟨v, m, u, Z, p2, a2, n2, k2, d2, m2, l2, p3, a3, n3, k3, d3, m3, l3, e, g1, z1, z2, t1.mono hB, g2.mono hB, g3.mono hB⟩
/-- The block that is written holds no terms. -/
def NoT (w : World) (row : Option Nat) : Prop := ∀ g, row = some g → ∃ cur T, w.heap[g]? = some (.cells cur T (0, 0)) ∧ T ≠ 56
theorem Rw.noT {t : TypeId} {w : World} {R : Nat} {cs : Array Value} (h : Rw t w R cs) (ht : t ≠ 56) : NoT w (some R) := fun g e => by cases e; exact ⟨cs, t, h, ht⟩
theorem SL.noT {w : World} {B : Nat} {T : TypeId} {c : Nat} {v : Value} {n : Nat} {E : Nat → List Value} (h : SL w B T c v n E) (ht : T ≠ 56) : NoT w v.ownBlock := by
  intro g e
  obtain ⟨vs, h1, _⟩ := h
  rcases h1.2 with ⟨rfl, _⟩ | ⟨g', cap, cur, e1, _, f1, _⟩
  · cases e
  · subst e1
    simp [Value.ownBlock] at e
    subst e
    exact ⟨cur, T, f1, ht⟩
theorem ne_of_noT {w : World} {B : Nat} {v : Value} {m : Nat} {u : Nat → PT} {Y : Nat → Nat} (h : TL w B v m u Y) {row : Option Nat} (hn : NoT w row) : ∀ g, v.ownBlock = some g → row ≠ some g := by
  intro g e1 e2
  obtain ⟨cur, T, f2, hT⟩ := hn g e2
  obtain ⟨E, ⟨vs, h1, _⟩, _⟩ := h
  rcases h1.2 with ⟨rfl, _⟩ | ⟨g', cap, cur', e3, _, f1, _⟩
  · cases e1
  · subst e3
    simp [Value.ownBlock] at e1
    subst e1
    rw [f1] at f2
    simp only [Option.some.injEq, Obj.cells.injEq] at f2
    exact hT f2.2.1.symm
/-- v is the problem P in its one form, all in memory from block B on. -/
def TO (w : World) (B : Nat) (P : Prob) (v : Value) : Prop :=
  ∃ f c n k c' n' k' va vc ra rc E F, v = .agg #[.bool P.mx, .string P.nm, .bool f, .slice c n k, .slice c' n' k', .slice va P.vn vc, .slice ra P.rn rc] ∧ GR w B f c n k c' n' k' P.k P.S ∧
    SL w B 54 13 (.slice va P.vn vc) P.vn E ∧ (∀ q, q < P.vn → VC w B (E q) (P.V q) (P.ZV q)) ∧ SL w B 59 10 (.slice ra P.rn rc) P.rn F ∧ (∀ q, q < P.rn → RC w B (F q) (P.R q) P.vn (P.ZR q))
end Go.Proofs.YtkgnbcbcgnlodaaGreatDoor

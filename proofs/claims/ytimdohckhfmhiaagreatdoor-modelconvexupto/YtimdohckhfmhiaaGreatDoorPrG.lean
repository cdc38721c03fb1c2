import Derived.Test.YtimdohckhfmhiaaGreatDoorPrE
import Derived.Test.YtimdohckhfmhiaaGreatDoorDivAll
namespace Go.Proofs.YtimdohckhfmhiaaGreatDoor
open Go.RowKit

theorem Off.grown {R : Nat} {w w' : World} (h : Off R w w') : w.grownBy w' (some R) := ⟨h.os, h.tape, h.output, Nat.le_of_eq h.size.symm, fun k _ hk => h.block k fun e => hk (by rw [e])⟩
/-- The block that is written holds no words. -/
def NoW (w : World) (row : Option Nat) : Prop := ∀ g, row = some g → ∃ cur T, w.heap[g]? = some (.cells cur T (0, 0)) ∧ T ≠ 65
theorem Rw.noW {t : TypeId} {w : World} {R : Nat} {cs : Array Value} (h : Rw t w R cs) (ht : t ≠ 65) : NoW w (some R) := fun g e => by cases e; exact ⟨cs, t, h, ht⟩
theorem SL.noW {w : World} {B : Nat} {T : TypeId} {c : Nat} {v : Value} {n : Nat} {E : Nat → List Value} (h : SL w B T c v n E) (ht : T ≠ 65) : NoW w v.ownBlock := by
  intro g e
  obtain ⟨vs, h1, _⟩ := h
  rcases h1.2 with ⟨rfl, _⟩ | ⟨g', cap, cur, e1, _, f1, _⟩
  · cases e
  · subst e1
    simp [Value.ownBlock] at e
    subst e
    exact ⟨cur, T, f1, ht⟩
theorem Got.keep {w w' : World} {B : Nat} {v : Value} {x : Int} {S : Nat} (h : Got w B v x S) {row : Option Nat} (hn : NoW w row) (hg : w.grownBy w' row) : Got w' B v x S := by
  obtain ⟨xs, h1, h2⟩ := h
  refine ⟨xs, World.ownsRow.kept h1 hg ?_, h2⟩
  rcases h1.2 with ⟨e1, _⟩ | ⟨g1, c1, cur1, e1, _, f1, _⟩
  · subst e1; exact .inl rfl
  · refine .inr fun e => ?_
    subst e1
    obtain ⟨cur, T, f2, hT⟩ := hn g1 (by rw [← e]; rfl)
    rw [f1] at f2
    simp only [Option.some.injEq, Obj.cells.injEq] at f2
    exact hT f2.2.1.symm
theorem GR.keep {w w' : World} {B : Nat} {f : Bool} {c : Option Addr} {n k : Nat} {c' : Option Addr} {n' k' : Nat} {r : Rat} {S : Nat} (h : GR w B f c n k c' n' k' r S) {row : Option Nat} (hn : NoW w row) (hg : w.grownBy w' row) : GR w' B f c n k c' n' k' r S := by
  refine ⟨?_, h.2.keep hn hg⟩
  obtain ⟨a, n2, c2, h1, h2⟩ := h.1
  exact ⟨a, n2, c2, h1, h2.keep hn hg⟩
theorem Rw.kept {t : TypeId} {w w' : World} {R : Nat} {cs : Array Value} (h : Rw t w R cs) {row : Option Nat} (hg : w.grownBy w' row) (hne : row ≠ some R) : Rw t w' R cs := (hg.block R h.lt (fun e => hne e.symm)).trans h
theorem SL.neR {w : World} {B : Nat} {T t : TypeId} {c : Nat} {v : Value} {n : Nat} {E : Nat → List Value} (h : SL w B T c v n E) {R : Nat} {cs : Array Value} (hr : Rw t w R cs) (ht : T ≠ t) : v.ownBlock ≠ some R := by
  intro e
  obtain ⟨vs, h1, _⟩ := h
  rcases h1.2 with ⟨rfl, _⟩ | ⟨g', cap, cur, e1, _, f1, _⟩
  · cases e
  · subst e1
    simp [Value.ownBlock] at e
    subst e
    unfold Rw at hr
    rw [f1] at hr
    simp only [Option.some.injEq, Obj.cells.injEq] at hr
    exact ht hr.2.1
theorem Rw.set7 {t : TypeId} {w : World} {R : Nat} {a0 a1 a2 a3 a4 a5 a6 : Value} (h : Rw t w R #[a0, a1, a2, a3, a4, a5, a6]) (b0 b1 b2 b3 b4 b5 b6 : Value) :
    Rw t (((((((w.setCell ⟨R, 0, none⟩ b0).setCell ⟨R, 1, none⟩ b1).setCell ⟨R, 2, none⟩ b2).setCell ⟨R, 3, none⟩ b3).setCell ⟨R, 4, none⟩ b4).setCell ⟨R, 5, none⟩ b5).setCell ⟨R, 6, none⟩ b6) R #[b0, b1, b2, b3, b4, b5, b6] ∧
    Off R w (((((((w.setCell ⟨R, 0, none⟩ b0).setCell ⟨R, 1, none⟩ b1).setCell ⟨R, 2, none⟩ b2).setCell ⟨R, 3, none⟩ b3).setCell ⟨R, 4, none⟩ b4).setCell ⟨R, 5, none⟩ b5).setCell ⟨R, 6, none⟩ b6) := by
  refine ⟨?_, ((((((Off.refl _ _).set 0 b0).set 1 b1).set 2 b2).set 3 b3).set 4 b4).set 5 b5 |>.set 6 b6⟩
  have := (((((((h.set 0 b0).1.set 1 b1).1.set 2 b2).1.set 3 b3).1.set 4 b4).1.set 5 b5).1.set 6 b6).1
  simpa using this
theorem Near.grown {g : Nat} {a b c : World} (h : Near g a b) {row : Option Nat} (hg : b.grownBy c row) (hr : ∀ k, row = some k → a.heap.size ≤ k) : Near g a c :=
  ⟨hg.os.trans h.os, hg.tape.trans h.tape, hg.output.trans h.output, Nat.le_trans h.size hg.size, fun k hk hne => (hg.block k (Nat.lt_of_lt_of_le hk h.size) (fun e => by have := hr k e.symm; omega)).trans (h.block k hk hne)⟩
theorem Near.grow {g : Nat} {a b : World} (h : Near g a b) : a.grownBy b (some g) := ⟨h.os, h.tape, h.output, h.size, fun k hk hne => h.block k hk (fun e => hne (by rw [e]))⟩
theorem Near.box {g : Nat} {a b : World} (h : Near g a b) {R : Nat} {cs : List Value} (hB : BoxC a R cs) (hR : R < a.heap.size) (hne : R ≠ g) : BoxC b R cs := fun i u hu => (World.cell?_of_block (w := a) (h.block R hR hne)).trans (hB i u hu)
theorem Near.rw {g : Nat} {a b : World} (h : Near g a b) {t : TypeId} {R : Nat} {cs : Array Value} (hB : Rw t a R cs) (hne : R ≠ g) : Rw t b R cs := (h.block R hB.lt hne).trans hB
/-- 'append(v, x)' by itself. -/
theorem wp_appendS (w : World) {o : Oper} {a : Act} {K : Act → World → Prop} {Q : Exit → Act → World → Prop} (s x : Operand) (L T : TypeId) (c y : Nat)
    (ho : o.op = .call { callee := .builtin .append, args := #[s, x], argTypes := #[L, L] }) (hL : Tryz.prog.underlying L = some (.slice T)) (hI : Inf T c y) (hc0 : 0 < c) (hy : y ≤ 1000)
    (B : Nat) (v : Value) (n : Nat) (E : Nat → List Value) (hs : a.eval s = v) (hown : SL w B T c v n E) (h k : Nat) (hx : a.eval x = .slice (some ⟨h, 0, none⟩) 1 k)
    (cs : List Value) (hcs : cs.length = c) (h1 : ∀ u ∈ cs, u.oneCell' = true) (hbox : BoxC w h cs)
    (hlen : n ≤ 1000000000) (hB : B ≤ w.heap.size) (H : Nat) (hH : w.heap.size = H)
    (hK : ∀ g cap w', SL w' B T c (.slice (some ⟨g, 0, none⟩) (n + 1) cap) (n + 1) (fun i => if i < n then E i else cs) → w.grownBy w' v.ownBlock → (v.ownBlock = some g ∨ g = H) → g < w'.heap.size → K (a.put o.dst (.slice (some ⟨g, 0, none⟩) (n + 1) cap)) w') :
    Oper.wp Tryz.prog o a w K Q := by
  obtain ⟨vs, g1, g2⟩ := hown
  obtain ⟨i0, z, hi, hz, hs3, hb56, hz3⟩ := hI
  have hyn : (n + 1) * y ≤ 1000000001 * 1000 := Nat.mul_le_mul (by omega) hy
  refine wp_append_lies w s x L ho B T i0 z c y hL hi hz hs3 hb56 hz3 hc0 v n vs hs g1 ⟨h, 0, none⟩ 1 k cs hx (by omega) ?_ h1 (by decide) (by unfold maxLen; omega) (by omega) hB H hH ?_
  · intro j u hj
    have := hbox j u hj
    by_cases e : j = 0
    · subst e; simpa [Addr.add] using this
    · simpa [Addr.add, e] using this
  · intro g cap w' r1 r2 r3 r4
    exact hK g cap w' ⟨_, r1, sl_app g1.1 hcs g2⟩ r2 r3 r4
theorem prbI : (Tryz.prog.info? 31).map (·.size) = some 7 := by kernel_rfl
/-- A variable's cells, its numbers one's own. -/
def VC (w : World) (B : Nat) (cs : List Value) (v : PV) (Y : Nat) : Prop :=
  ∃ p1 a1 n1 k1 d1 m1 l1 p2 a2 n2 k2 d2 m2 l2 p3 a3 n3 k3 d3 m3 l3, cs = [.string v.nm, .bool p1, .slice a1 n1 k1, .slice d1 m1 l1, .bool v.hlo, .bool p2, .slice a2 n2 k2, .slice d2 m2 l2, .bool v.hhi, .bool p3, .slice a3 n3 k3, .slice d3 m3 l3, .bool v.whole] ∧
    GR w B p1 a1 n1 k1 d1 m1 l1 v.obj Y ∧ GR w B p2 a2 n2 k2 d2 m2 l2 (bat v.hlo v.lo) Y ∧ GR w B p3 a3 n3 k3 d3 m3 l3 (bat v.hhi v.hi) Y
theorem VC.below {w w' : World} {B : Nat} {cs : List Value} {v : PV} {Y : Nat} (h : VC w B cs v Y) (hb : Below w.heap.size w w') : VC w' B cs v Y := by
  obtain ⟨p1, a1, n1, k1, d1, m1, l1, p2, a2, n2, k2, d2, m2, l2, p3, a3, n3, k3, d3, m3, l3, e, g1, g2, g3⟩ := h
  exact ⟨p1, a1, n1, k1, d1, m1, l1, p2, a2, n2, k2, d2, m2, l2, p3, a3, n3, k3, d3, m3, l3, e, g1.below hb, g2.below hb, g3.below hb⟩
theorem VC.keep {w w' : World} {B : Nat} {cs : List Value} {v : PV} {Y : Nat} (h : VC w B cs v Y) {row : Option Nat} (hn : NoW w row) (hg : w.grownBy w' row) : VC w' B cs v Y := by
  obtain ⟨p1, a1, n1, k1, d1, m1, l1, p2, a2, n2, k2, d2, m2, l2, p3, a3, n3, k3, d3, m3, l3, e, g1, g2, g3⟩ := h
  exact ⟨p1, a1, n1, k1, d1, m1, l1, p2, a2, n2, k2, d2, m2, l2, p3, a3, n3, k3, d3, m3, l3, e, g1.keep hn hg, g2.keep hn hg, g3.keep hn hg⟩
theorem TC.keep {w w' : World} {B : Nat} {cs : List Value} {t : PT} {Y : Nat} (h : TC w B cs t Y) {row : Option Nat} (hn : NoW w row) (hg : w.grownBy w' row) : TC w' B cs t Y := by
  obtain ⟨p, a, na, ca, d, nd, cd, e, g⟩ := h
  exact ⟨p, a, na, ca, d, nd, cd, e, g.keep hn hg⟩
theorem TL.below {w w' : World} {B : Nat} {v : Value} {m : Nat} {u : Nat → PT} {Y : Nat → Nat} (h : TL w B v m u Y) (hb : Below w.heap.size w w') : TL w' B v m u Y := by
  obtain ⟨E, h1, h2⟩ := h
  exact ⟨E, h1.below hb, fun i hi => (h2 i hi).below hb⟩
theorem TL.keep {w w' : World} {B : Nat} {v : Value} {m : Nat} {u : Nat → PT} {Y : Nat → Nat} (h : TL w B v m u Y) {row : Option Nat} (hn : NoW w row) (hne : ∀ g, v.ownBlock = some g → row ≠ some g) (hg : w.grownBy w' row) : TL w' B v m u Y := by
  obtain ⟨E, h1, h2⟩ := h
  exact ⟨E, h1.kept hg hne, fun i hi => (h2 i hi).keep hn hg⟩
theorem TL.mono {w : World} {B B' : Nat} {v : Value} {m : Nat} {u : Nat → PT} {Y : Nat → Nat} (h : TL w B v m u Y) (hB : B' ≤ B) : TL w B' v m u Y := by
  obtain ⟨E, h1, h2⟩ := h
  exact ⟨E, h1.mono hB, fun i hi => (h2 i hi).mono hB⟩
theorem TL.form {w : World} {B : Nat} {v : Value} {m : Nat} {u : Nat → PT} {Y : Nat → Nat} (h : TL w B v m u Y) : ∃ a cap, v = .slice a m cap ∧ m ≤ cap := by
  obtain ⟨E, h1, h2⟩ := h
  exact h1.form
/-- A row's cells: its terms put together, its numbers one's own. -/
def RC (w : World) (B : Nat) (cs : List Value) (r : PW) (n : Nat) (Y : Nat) : Prop :=
  ∃ v m u Z p2 a2 n2 k2 d2 m2 l2 p3 a3 n3 k3 d3 m3 l3, cs = [.string r.nm, v, .bool r.hlo, .bool p2, .slice a2 n2 k2, .slice d2 m2 l2, .bool r.hhi, .bool p3, .slice a3 n3 k3, .slice d3 m3 l3] ∧
    Gath r.t r.nt n u m ∧ (∀ q, q < r.nt → SzR (r.t q).coef (Z q) ∧ 1 ≤ Z q) ∧ tot Z r.nt ≤ Y ∧ TL w B v m u (fun i => zs r.t Z (u i).var r.nt - 1) ∧ GR w B p2 a2 n2 k2 d2 m2 l2 (bat r.hlo r.lo) Y ∧ GR w B p3 a3 n3 k3 d3 m3 l3 (bat r.hhi r.hi) Y
theorem RC.below {w w' : World} {B : Nat} {cs : List Value} {r : PW} {n Y : Nat} (h : RC w B cs r n Y) (hb : Below w.heap.size w w') : RC w' B cs r n Y := by
  obtain ⟨v, m, u, Z, p2, a2, n2, k2, d2, m2, l2, p3, a3, n3, k3, d3, m3, l3, e, g1, z1, z2, t1, g2, g3⟩ := h
  exact ⟨v, m, u, Z, p2, a2, n2, k2, d2, m2, l2, p3, a3, n3, k3, d3, m3, l3, e, g1, z1, z2, t1.below hb, g2.below hb, g3.below hb⟩
theorem RC.keep {w w' : World} {B : Nat} {cs : List Value} {r : PW} {n Y : Nat} (h : RC w B cs r n Y) {row : Option Nat} (hn : NoW w row) (hne : ∀ g, row = some g → ∃ cur T, w.heap[g]? = some (.cells cur T (0, 0)) ∧ T ≠ 53) (hg : w.grownBy w' row) : RC w' B cs r n Y := by
  obtain ⟨v, m, u, Z, p2, a2, n2, k2, d2, m2, l2, p3, a3, n3, k3, d3, m3, l3, e, g1, z1, z2, t1, g2, g3⟩ := h
  refine ⟨v, m, u, Z, p2, a2, n2, k2, d2, m2, l2, p3, a3, n3, k3, d3, m3, l3, e, g1, z1, z2, t1.keep hn ?_ hg, g2.keep hn hg, g3.keep hn hg⟩
  intro g e1 e2
  obtain ⟨cur, T, f2, hT⟩ := hne g e2
  obtain ⟨E, ⟨vs, h1, _⟩, _⟩ := t1
  rcases h1.2 with ⟨rfl, _⟩ | ⟨g', cap, cur', e3, _, f1, _⟩
  · cases e1
  · subst e3
    simp [Value.ownBlock] at e1
    subst e1
    rw [f1] at f2
    simp only [Option.some.injEq, Obj.cells.injEq] at f2
    exact hT f2.2.1.symm
theorem VC.mono {w : World} {B B' : Nat} {cs : List Value} {v : PV} {Y : Nat} (h : VC w B cs v Y) (hB : B' ≤ B) : VC w B' cs v Y := by
  obtain ⟨p1, a1, n1, k1, d1, m1, l1, p2, a2, n2, k2, d2, m2, l2, p3, a3, n3, k3, d3, m3, l3, e, g1, g2, g3⟩ := h
  exact ⟨p1, a1, n1, k1, d1, m1, l1, p2, a2, n2, k2, d2, m2, l2, p3, a3, n3, k3, d3, m3, l3, e, g1.mono hB, g2.mono hB, g3.mono hB⟩
theorem RC.mono {w : World} {B B' : Nat} {cs : List Value} {r : PW} {n Y : Nat} (h : RC w B cs r n Y) (hB : B' ≤ B) : RC w B' cs r n Y := by
  obtain ⟨v, m, u, Z, p2, a2, n2, k2, d2, m2, l2, p3, a3, n3, k3, d3, m3, l3, e, g1, z1, z2, t1, g2, g3⟩ := h
  exact ⟨v, m, u, Z, p2, a2, n2, k2, d2, m2, l2, p3, a3, n3, k3, d3, m3, l3, e, g1, z1, z2, t1.mono hB, g2.mono hB, g3.mono hB⟩
/-- The block that is written holds no terms. -/
def NoT (w : World) (row : Option Nat) : Prop := ∀ g, row = some g → ∃ cur T, w.heap[g]? = some (.cells cur T (0, 0)) ∧ T ≠ 53
theorem Rw.noT {t : TypeId} {w : World} {R : Nat} {cs : Array Value} (h : Rw t w R cs) (ht : t ≠ 53) : NoT w (some R) := fun g e => by cases e; exact ⟨cs, t, h, ht⟩
theorem SL.noT {w : World} {B : Nat} {T : TypeId} {c : Nat} {v : Value} {n : Nat} {E : Nat → List Value} (h : SL w B T c v n E) (ht : T ≠ 53) : NoT w v.ownBlock := by
  intro g e
  obtain ⟨vs, h1, _⟩ := h
  rcases h1.2 with ⟨rfl, _⟩ | ⟨g', cap, cur, e1, _, f1, _⟩
  · cases e
  · subst e1
    simp [Value.ownBlock] at e
    subst e
    exact ⟨cur, T, f1, ht⟩
theorem ne_of_noT {w : World} {B : Nat} {v : Value} {m : Nat} {u : Nat → PT} {Y : Nat → Nat} (h : TL w B v m u Y) {row : Option Nat} (hn : NoT w row) : ∀ g, v.ownBlock = some g → row ≠ some g := by
  intro g e1 e2
  obtain ⟨cur, T, f2, hT⟩ := hn g e2
  obtain ⟨E, ⟨vs, h1, _⟩, _⟩ := h
  rcases h1.2 with ⟨rfl, _⟩ | ⟨g', cap, cur', e3, _, f1, _⟩
  · cases e1
  · subst e3
    simp [Value.ownBlock] at e1
    subst e1
    rw [f1] at f2
    simp only [Option.some.injEq, Obj.cells.injEq] at f2
    exact hT f2.2.1.symm
/-- v is the problem P in its one form, all in memory from block B on. -/
def TO (w : World) (B : Nat) (P : Prob) (v : Value) : Prop :=
  ∃ f c n k c' n' k' va vc ra rc E F, v = .agg #[.bool P.mx, .string P.nm, .bool f, .slice c n k, .slice c' n' k', .slice va P.vn vc, .slice ra P.rn rc] ∧ GR w B f c n k c' n' k' P.k P.S ∧
    SL w B 64 13 (.slice va P.vn vc) P.vn E ∧ (∀ q, q < P.vn → VC w B (E q) (P.V q) (P.ZV q)) ∧ SL w B 51 10 (.slice ra P.rn rc) P.rn F ∧ (∀ q, q < P.rn → RC w B (F q) (P.R q) P.vn (P.ZR q))
end Go.Proofs.YtimdohckhfmhiaaGreatDoor

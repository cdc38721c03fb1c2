import Derived.Test.YtcakohejaboplaaGreatDoorOpAll
namespace Go.Proofs.YtcakohejaboplaaGreatDoor
open Go.ChangeShapes Go.WideShapes Go.ChangeAt Go.RowKit

/-- An error that stands in a package's variable, with its text and its block. -/
def Err3 (w : World) (g : Nat) (a : Addr) (text : List UInt8) : Prop :=
  w.cell? ⟨g, 0, none⟩ = some (.iface 141 (.pointer (some a))) ∧ (∃ s, w.cell? a = some (.string s) ∧ s.data.toList = text) ∧ ∃ c t, w.heap[a.block]? = some (.cells c t (0, 0))
theorem Err3.errs {w : World} {g : Nat} {a : Addr} {text : List UInt8} (h : Err3 w g a text) : Errs w g (.iface 141 (.pointer (some a))) := ⟨h.1, a, rfl⟩
theorem Err3.below {w w' : World} {g : Nat} {a : Addr} {text : List UInt8} (h : Err3 w g a text) (hb : Below w.heap.size w w') : Err3 w' g a text := by
  obtain ⟨h1, ⟨s, h2, h3⟩, c, t, h4⟩ := h
  have hlt := World.block_lt_of_cell? _ _ h2
  exact ⟨by rw [hb.cell (World.block_lt_of_cell? _ _ h1)]; exact h1, ⟨s, by rw [hb.cell hlt]; exact h2, h3⟩, c, t, by rw [hb.block _ hlt]; exact h4⟩
theorem laid_err3 {P : Program} {n nm : String} {text : List UInt8} {r : List (String × DataW Unit)} {W : World} {g : Nat} {ti tp te ts : TypeId} {ms : Array (String × TypeId)} {f : Field}
    (h : laidMet P ((n, .iface nm (.ptr (.agg [.lit (.string text)]))) :: r) W)
    (hg : P.globalNamed n = some g) (ht : (P.globals[g]?).map (·.type) = some ti) (hi : P.underlying ti = some (.interface ms)) (hrow : ∀ u, P.typeName? 3 u = some nm → u = tp)
    (hp : P.underlying tp = some (.pointer te)) (he : P.underlying te = some (.struct #[f])) (hft : f.type = ts) (hfo : f.offset = 0) (hs : P.underlying ts = some .string) (hc : P.cellsOf te = 1) (hcs : P.cellsOf ts = 1) :
    ∃ (a : Addr) (s : ByteArray), W.var? P n = some #[.iface tp (.pointer (some a))] ∧ W.cell? a = some (.string s) ∧ s.data.toList = text ∧ ∃ c t, W.heap[a.block]? = some (.cells c t (0, 0)) := by
  obtain ⟨ps, ⟨g0, t0, cs0, f0, p0, q0, hg0, ht0, hv0, hd0, _, e0⟩, _, hrows⟩ := h
  obtain rfl := Option.some.inj (hg.symm.trans hg0)
  obtain rfl := Option.some.inj (ht.symm.trans ht0)
  subst e0
  obtain ⟨l0⟩ := cs0
  have ok0 : ∀ u v, l0 = [.iface u v] → Value.okWide P W .any 0 u v := fun u v e => by
    subst e
    exact (hrows g 0 (by simp [MemPlace.row])).2 u v (by simpa using World.var?_cell hg0 hv0 0)
  obtain ⟨a0, s0, rfl, hc0, hs0, _, rfl⟩ := errorString_of_trod hi hrow hp he hft hfo hs hc hcs hd0 ok0
  exact ⟨a0, s0, hv0, hc0, hs0, (hrows a0.block a0.off (by simp [MemPlace.row])).1⟩
theorem err3_head {n : String} {text : List UInt8} {r : List (String × DataW Unit)} {W : World} {g : Nat} (hg : Tryz.prog.globalNamed n = some g) (ht : (Tryz.prog.globals[g]?).map (·.type) = some 35)
    (h : laidMet Tryz.prog ((n, .iface "*errors.errorString" (.ptr (.agg [.lit (.string text)]))) :: r) W) : ∃ a, Err3 W g a text := by
  obtain ⟨a, s, h1, h2, h3, h4⟩ := laid_err3 h hg ht Tryz.underlying35 errRow Tryz.underlying141 Tryz.underlying159 rfl rfl Tryz.underlying9 errCells strCells
  exact ⟨a, World.var?_cell hg h1 0, ⟨s, h2, h3⟩, h4⟩
theorem Tryz.errComp3 : (Tryz.prog.info? 141).map (·.comparable) = some true := by kernel_rfl
theorem Tryz.errSize3 : (Tryz.prog.info? 159).map (·.size) = some 1 := by kernel_rfl
theorem neq3 {w : World} {g g' : Nat} {a b : Addr} {x y : List UInt8} (ha : Err3 w g a x) (hb : Err3 w g' b y) (hne : x ≠ y) :
    (binOp .neq 35 (.iface 141 (.pointer (some a))) (.iface 141 (.pointer (some b)))).run Tryz.prog w = .ok (.bool true) w := by
  obtain ⟨i, hi, hcmp⟩ := Option.map_eq_some_iff.1 Tryz.errComp3
  obtain ⟨j, hj, hsz⟩ := Option.map_eq_some_iff.1 Tryz.errSize3
  obtain ⟨_, ⟨s, hs, es⟩, ca, ta, ka⟩ := ha
  obtain ⟨_, ⟨z, hz, ez⟩, cb, tb, kb⟩ := hb
  have hab : a ≠ b := by
    rintro rfl
    have := hs.symm.trans hz
    simp only [Option.some.injEq, Value.string.injEq] at this
    exact hne (by rw [← es, ← ez, this])
  simp only [binOp]
  simp [Op.equal, Op.maxDepth, run_equalIn_iface_ptr_other w 9998 Tryz.underlying35 Tryz.underlying141 hi hcmp hj (by omega) hab ka kb]
end Go.Proofs.YtcakohejaboplaaGreatDoor

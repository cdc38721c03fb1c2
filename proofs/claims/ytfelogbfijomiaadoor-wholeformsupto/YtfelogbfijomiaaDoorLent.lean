import Derived.Test.YtfelogbfijomiaaDoorLow
namespace Go.Proofs.YtfelogbfijomiaaDoor
open Go.RowKit

/-- What is lent: the limbs, and the marks behind them. -/
def lendL (xs : List Int) : List Int := xs ++ List.replicate 24 3789677025
theorem length_lendL (xs : List Int) : (lendL xs).length = xs.length + 24 := by simp [lendL]
theorem lm_lend_lt {xs : List Int} {i : Nat} (h : i < xs.length) : lm (lendL xs) i = lm xs i := lm_append_left h
theorem lm_lend_ge {xs : List Int} {i : Nat} (h : xs.length ≤ i) (h2 : i < xs.length + 24) : lm (lendL xs) i = 3789677025 := by
  unfold lendL
  rw [lm_append_right h]
  have e : (List.replicate 24 (3789677025 : Int))[i - xs.length]? = some 3789677025 := by rw [List.getElem?_replicate, if_pos (by omega)]
  unfold lm
  rw [List.getD_eq_getElem?_getD, e]
  rfl
/-- The struct at block r: lent numbers: the lists, and how they were. -/
structure Lnt (w : World) (r gf cf gw cw n : Nat) (fs ws : List Int) : Prop where
  c0 : w.cell? ⟨r, 0, none⟩ = some (.slice (some ⟨gf, 0, none⟩) fs.length cf)
  c1 : w.cell? ⟨r, 1, none⟩ = some (.slice (some ⟨gw, 0, none⟩) ws.length cw)
  c2 : w.cell? ⟨r, 2, none⟩ = some (.int .i64 n)
  rf : Row w gf cf fs
  rw : Row w gw cw ws
  ne : gf ≠ gw
  lf : r < gf
  lw : r < gw
  le : n ≤ fs.length
  lr : r < w.heap.size
  eq : fs.length = ws.length
theorem Lnt.below {w w' : World} {r gf cf gw cw n : Nat} {fs ws : List Int} (h : Lnt w r gf cf gw cw n fs ws) (hb : Below w.heap.size w w') : Lnt w' r gf cf gw cw n fs ws :=
  ⟨by rw [hb.cell (by exact h.lr)]; exact h.c0, by rw [hb.cell (by exact h.lr)]; exact h.c1, by rw [hb.cell (by exact h.lr)]; exact h.c2, h.rf.belowAll hb, h.rw.belowAll hb, h.ne, h.lf, h.lw, h.le, by have := hb.size; have := h.lr; omega, h.eq⟩
theorem Lnt.drewN {w : World} {r gf cf gw cw n : Nat} {fs ws : List Int} (h : Lnt w r gf cf gw cw n fs ws) (m : Nat) : Lnt (w.drewN m) r gf cf gw cw n fs ws := h.below (belN (Below.refl _ _) m)

/-- Lend's loop: what holds at round k. -/
def LendAt (w wr : World) (n k : Nat) (F : List Int) : Prop :=
  ∃ vf vw, wr.cell? ⟨w.heap.size, 0, none⟩ = some vf ∧ wr.cell? ⟨w.heap.size, 1, none⟩ = some vw ∧ wr.cell? ⟨w.heap.size, 2, none⟩ = some (.int .i64 n) ∧
    wr.frozen? ⟨w.heap.size, 0, none⟩ = false ∧ wr.frozen? ⟨w.heap.size, 1, none⟩ = false ∧ OwnV wr (w.heap.size + 1) vf (F.take k) ∧ OwnV wr (w.heap.size + 1) vw (F.take k) ∧
    (∀ g, vf.ownBlock = some g → vw.ownBlock ≠ some g) ∧ Below w.heap.size w wr ∧ w.heap.size < wr.heap.size

theorem grown_cell {w w' : World} {row : Option Nat} (hg : w.grownBy w' row) {p : Addr} (hp : p.block < w.heap.size) (hr : some p.block ≠ row) : w'.cell? p = w.cell? p := World.cell?_of_block (w := w) (hg.block p.block hp hr)
theorem grown_frozen {w w' : World} {row : Option Nat} (hg : w.grownBy w' row) {p : Addr} (hp : p.block < w.heap.size) (hr : some p.block ≠ row) : w'.frozen? p = w.frozen? p := World.frozen?_of_block (w := w) (hg.block p.block hp hr)
theorem OwnV.grown {w w' : World} {B : Nat} {v : Value} {xs : List Int} {row : Option Nat} (h : OwnV w B v xs) (hg : w.grownBy w' row) (hne : v.ownBlock = none ∨ v.ownBlock ≠ row) : OwnV w' B v xs := World.ownsRow.kept h hg hne
theorem OwnV.set_below {w : World} {B : Nat} {v : Value} {xs : List Int} (h : OwnV w B v xs) {p : Addr} (hp : p.block < B) (u : Value) : OwnV (w.setCell p u) B v xs := ownsRow_setCell_below h hp u

/-- Ahead of the store the struct is as it was. -/
theorem step_same {w w1 : World} {r : Nat} {v : Value} {xs : List Int} (hv : OwnV w (r + 1) v xs) (hr : r < w.heap.size) (blk : Obj) (hgrow : (w.alloc blk).grownBy w1 v.ownBlock) (i : Nat) :
    w1.cell? ⟨r, i, none⟩ = w.cell? ⟨r, i, none⟩ ∧ w1.frozen? ⟨r, i, none⟩ = w.frozen? ⟨r, i, none⟩ := by
  have hra : r < (w.alloc blk).heap.size := by simp; omega
  have hne : some r ≠ v.ownBlock := fun e => by have := (hv.lt r e.symm).1; omega
  constructor
  · rw [grown_cell hgrow (p := ⟨r, i, none⟩) hra hne]
    exact World.cell?_of_block (w := w) (Below.heap_alloc _ _ _ hr)
  · rw [grown_frozen hgrow (p := ⟨r, i, none⟩) hra hne]
    exact World.frozen?_of_block (w := w) (Below.heap_alloc _ _ _ hr)
/-- One append to the field at offset f of the struct at r: the other field's list stays. -/
theorem step_field {w w0 w1 : World} {r g cap : Nat} {f f' : Nat} {v v' : Value} {xs ys : List Int} {u0 : Value} {z : Int} {n : Nat} (_hf : f ≠ f')
    (hc' : w.cell? ⟨r, f', none⟩ = some v') (hc2 : w.cell? ⟨r, 2, none⟩ = some u0) (hz' : w.frozen? ⟨r, f', none⟩ = false) (hz : w.frozen? ⟨r, f, none⟩ = false) (_hf2 : f ≠ 2)
    (hv : OwnV w (r + 1) v xs) (hv' : OwnV w (r + 1) v' ys) (hdis : ∀ k, v.ownBlock = some k → v'.ownBlock ≠ some k) (hr : r < w.heap.size) (hbel : Below r w0 w) (blk : Obj)
    (hown : OwnV w1 (r + 1) (.slice (some ⟨g, 0, none⟩) (n + 1) cap) (xs ++ [z])) (hgrow : (w.alloc blk).grownBy w1 v.ownBlock) (hat : v.ownBlock = some g ∨ g = w.heap.size + 1) (val : Value) (hval : val = .slice (some ⟨g, 0, none⟩) (n + 1) cap) :
    (w1.setCell ⟨r, f, none⟩ val).cell? ⟨r, f', none⟩ = some v' ∧ (w1.setCell ⟨r, f, none⟩ val).cell? ⟨r, 2, none⟩ = some u0 ∧ (w1.setCell ⟨r, f, none⟩ val).frozen? ⟨r, f', none⟩ = false ∧ (w1.setCell ⟨r, f, none⟩ val).frozen? ⟨r, f, none⟩ = false ∧
      OwnV (w1.setCell ⟨r, f, none⟩ val) (r + 1) val (xs ++ [z]) ∧ OwnV (w1.setCell ⟨r, f, none⟩ val) (r + 1) v' ys ∧ (∀ k, val.ownBlock = some k → v'.ownBlock ≠ some k) ∧ Below r w0 (w1.setCell ⟨r, f, none⟩ val) ∧ r < (w1.setCell ⟨r, f, none⟩ val).heap.size := by
  have hrow : ∀ k, v.ownBlock = some k → r + 1 ≤ k := fun k hk => (hv.lt k hk).1
  have hra : r < (w.alloc blk).heap.size := by simp; omega
  have hne : some r ≠ v.ownBlock := fun e => by have := hrow r e.symm; omega
  have hcell : ∀ i, w1.cell? ⟨r, i, none⟩ = w.cell? ⟨r, i, none⟩ := fun i => by
    rw [grown_cell hgrow (p := ⟨r, i, none⟩) hra hne]
    exact World.cell?_of_block (w := w) (Below.heap_alloc _ _ _ hr)
  have hfrz : ∀ i, w1.frozen? ⟨r, i, none⟩ = w.frozen? ⟨r, i, none⟩ := fun i => by
    rw [grown_frozen hgrow (p := ⟨r, i, none⟩) hra hne]
    exact World.frozen?_of_block (w := w) (Below.heap_alloc _ _ _ hr)
  have hv'1 : OwnV w1 (r + 1) v' ys := by
    refine (hv'.alloc blk).grown hgrow ?_
    cases e : v'.ownBlock with
    | none => exact .inl rfl
    | some k => exact .inr (fun e2 => hdis k e2.symm e)
  subst hval
  refine ⟨?_, ?_, ?_, ?_, hown.set_below (by simp) _, hv'1.set_below (by simp) _, ?_, ?_, ?_⟩
  · rw [World.cell?_setCell_other _ _ _ _ (by simp)]; rw [hcell]; exact hc'
  · rw [World.cell?_setCell_other _ _ _ _ (by simp)]; rw [hcell]; exact hc2
  · rw [World.frozen?_setCell]; rw [hfrz]; exact hz'
  · rw [World.frozen?_setCell]; rw [hfrz]; exact hz
  · intro k hk
    simp only [Value.ownBlock, Option.some.injEq] at hk
    subst hk
    rcases hat with e | e
    · exact hdis g e
    · intro e2; have := (hv'.lt g e2).2; omega
  · exact (hbel.trans (((Below.refl _ _).alloc (by omega) blk).trans (grown_below hgrow (by simp; omega) (fun k hk => by have := hrow k hk; omega)))).setCell (Nat.le_refl _) _
  · have := hgrow.size; simp at this ⊢; omega

set_option maxHeartbeats 1000000 in
theorem lend_any (a : Option Addr) (n cap : Nat) (xs : List Int) (w : World) (hn : n = xs.length) (hl : n ≤ cap) (hm : n ≤ 2000000) (hr : Reads w a xs) :
    Calls Tryd.prog 51 #[.slice a n cap] w fun e w' => ∃ gf cf gw cw, e = .returned (.pointer (some ⟨w.heap.size, 0, none⟩)) ∧ Lnt w' w.heap.size gf cf gw cw n (lendL xs) (lendL xs) ∧ Below w.heap.size w w' := by
  subst hn
  have HL : Hid ((lendL xs).length = xs.length + 24) := length_lendL xs
  go_enter Tryd.func51, Tryd.ntmps51
  go_wp2
  go_loopw [4] (fun i wr => ∃ k : Nat, k ≤ xs.length + 24 ∧ i = .int .i64 k ∧ LendAt w wr xs.length k (lendL xs)) (fun i _ => xs.length + 24 - (intOf i).toNat)
  case atStart => exact ⟨0, Nat.zero_le _, rfl, .slice none 0 0, .slice none 0 0, by simp, by simp, by simp, by simp, by simp, OwnV.nil _ _, OwnV.nil _ _, fun g hg => by simp [Value.ownBlock] at hg, (Below.refl _ _).alloc (Nat.le_refl _) _, by simp⟩
  case round =>
    obtain ⟨k, hk, rfl, vf, vw, c0, c1, c2, z0, z1, of, ow, dis, bel, lt⟩ := hrel
    by_cases hlt : k < xs.length + 24
    · by_cases hkx : k < xs.length
      · skip
        obtain ⟨b1, o1, rfl, hc1⟩ := hr.at (by omega)
        have h1 := hc1 k hkx
        have h2 : wr.cell? ⟨b1, o1 + k, none⟩ = some (.int .u64 (lm xs k)) := by
          have := World.block_lt_of_cell? _ _ h1
          rw [bel.cell (p := ⟨b1, o1 + k, none⟩) (by simpa using this)]; exact h1
        have hli : lm (lendL xs) k = lm xs k := lm_lend_lt hkx
        clear hc1 h1
        have HT : Hid ((lendL xs).take (k + 1) = (lendL xs).take k ++ [lm xs k]) := by show _ = _; rw [← hli]; exact (take_snoc_lm _ _ (by rw [HL.out]; exact hlt)).symm
        have HK : Hid (((lendL xs).take k).length = k) := by show _ = _; rw [List.length_take, HL.out]; omega
        clear hli
        generalize (lendL xs).take k = F at *
        go_wp2_with (at_builtin; refine wpList_append1 22 Tryd.underlying22 _ rfl _ _ rfl (w.heap.size + 1) vf F k HK rfl (of.alloc _) wr.heap.size _ (lm xs k) rfl (by simp) (by omega) (by simp; omega) (wr.heap.size + 1) (by simp) ?_)
        intro g cap1 w1 hown hgrow hat _
        have d0 := step_same of lt _ hgrow 0
        have d1 := step_same of lt _ hgrow 1
        rw [c0, z0] at d0
        rw [c1, z1] at d1
        obtain ⟨d0, y0⟩ := d0
        obtain ⟨d1, y1⟩ := d1
        have S := step_field (f := 0) (f' := 1) (by omega) c1 c2 z1 z0 (by omega) of ow dis lt bel _ hown hgrow hat _ rfl
        obtain ⟨e1, e2, e3, e4, e5, e6, e7, e8, e9⟩ := S
        have e0 : (w1.setCell ⟨w.heap.size, 0, none⟩ (.slice (some ⟨g, 0, none⟩) (k + 1) cap1)).cell? ⟨w.heap.size, 0, none⟩ = some (.slice (some ⟨g, 0, none⟩) (k + 1) cap1) := World.cell?_setCell_same _ _ _ d0
        have hz1 : w.heap.size < w1.heap.size := by simpa using e9
        clear hown hgrow hat of ow dis bel c0 c1 c2 z0 z1
        go_wp2_with (at_builtin; refine wpList_append1 22 Tryd.underlying22 _ rfl _ _ rfl (w.heap.size + 1) vw F k HK rfl (e6.alloc _) w1.heap.size _ (lm xs k) rfl (cell_new1 (by simp)) (by omega) (by simp; omega) (w1.heap.size + 1) (by simp) ?_)
        intro g2 cap2 w2 hown hgrow hat _
        have e7' : ∀ q, vw.ownBlock = some q → (Value.slice (some ⟨g, 0, none⟩) (k + 1) cap1).ownBlock ≠ some q := fun q h1 h2 => e7 q h2 h1
        have hat' : vw.ownBlock = some g2 ∨ g2 = (w1.setCell ⟨w.heap.size, 0, none⟩ (.slice (some ⟨g, 0, none⟩) (k + 1) cap1)).heap.size + 1 := by simpa using hat
        have f0 := step_same e6 e9 _ hgrow 0
        have f1 := step_same e6 e9 _ hgrow 1
        rw [e0, e4] at f0
        rw [e1, e3] at f1
        obtain ⟨f0, x0⟩ := f0
        obtain ⟨f1, x1⟩ := f1
        have S := step_field (f := 1) (f' := 0) (by omega) e0 e2 e4 e3 (by omega) e6 e5 e7' e9 e8 _ hown hgrow hat' _ rfl
        obtain ⟨s1, s2, s3, s4, s5, s6, s7, s8, s9⟩ := S
        have s0 : (w2.setCell ⟨w.heap.size, 1, none⟩ (.slice (some ⟨g2, 0, none⟩) (k + 1) cap2)).cell? ⟨w.heap.size, 1, none⟩ = some (.slice (some ⟨g2, 0, none⟩) (k + 1) cap2) := World.cell?_setCell_same _ _ _ f1
        have s7' : ∀ q, (Value.slice (some ⟨g, 0, none⟩) (k + 1) cap1).ownBlock = some q → (Value.slice (some ⟨g2, 0, none⟩) (k + 1) cap2).ownBlock ≠ some q := fun q h1 h2 => s7 q h2 h1
        clear hown hgrow hat hat' e0 e1 e2 e3 e4 e5 e6 e7 e7' e8 e9 d0 d1 y0 y1
        go_wp2
        go_roundw
        case rel => exact ⟨k + 1, by omega, by go_num, _, _, s1, s0, s2, s3, s4, by rw [HT.out]; exact s6, by rw [HT.out]; exact s5, s7', s8, s9⟩
        case measure => simp [intOf]; omega
      · skip
        have hli : lm (lendL xs) k = 3789677025 := lm_lend_ge (by omega) hlt
        have HT : Hid ((lendL xs).take (k + 1) = (lendL xs).take k ++ [3789677025]) := by show _ = _; rw [← hli]; exact (take_snoc_lm _ _ (by rw [HL.out]; exact hlt)).symm
        have HK : Hid (((lendL xs).take k).length = k) := by show _ = _; rw [List.length_take, HL.out]; omega
        clear hli
        generalize (lendL xs).take k = F at *
        go_wp2_with (at_builtin; refine wpList_append1 22 Tryd.underlying22 _ rfl _ _ rfl (w.heap.size + 1) vf F k HK rfl (of.alloc _) wr.heap.size _ (3789677025) rfl (by simp) (by omega) (by simp; omega) (wr.heap.size + 1) (by simp) ?_)
        intro g cap1 w1 hown hgrow hat _
        have d0 := step_same of lt _ hgrow 0
        have d1 := step_same of lt _ hgrow 1
        rw [c0, z0] at d0
        rw [c1, z1] at d1
        obtain ⟨d0, y0⟩ := d0
        obtain ⟨d1, y1⟩ := d1
        have S := step_field (f := 0) (f' := 1) (by omega) c1 c2 z1 z0 (by omega) of ow dis lt bel _ hown hgrow hat _ rfl
        obtain ⟨e1, e2, e3, e4, e5, e6, e7, e8, e9⟩ := S
        have e0 : (w1.setCell ⟨w.heap.size, 0, none⟩ (.slice (some ⟨g, 0, none⟩) (k + 1) cap1)).cell? ⟨w.heap.size, 0, none⟩ = some (.slice (some ⟨g, 0, none⟩) (k + 1) cap1) := World.cell?_setCell_same _ _ _ d0
        have hz1 : w.heap.size < w1.heap.size := by simpa using e9
        clear hown hgrow hat of ow dis bel c0 c1 c2 z0 z1
        go_wp2_with (at_builtin; refine wpList_append1 22 Tryd.underlying22 _ rfl _ _ rfl (w.heap.size + 1) vw F k HK rfl (e6.alloc _) w1.heap.size _ (3789677025) rfl (cell_new1 (by simp)) (by omega) (by simp; omega) (w1.heap.size + 1) (by simp) ?_)
        intro g2 cap2 w2 hown hgrow hat _
        have e7' : ∀ q, vw.ownBlock = some q → (Value.slice (some ⟨g, 0, none⟩) (k + 1) cap1).ownBlock ≠ some q := fun q h1 h2 => e7 q h2 h1
        have hat' : vw.ownBlock = some g2 ∨ g2 = (w1.setCell ⟨w.heap.size, 0, none⟩ (.slice (some ⟨g, 0, none⟩) (k + 1) cap1)).heap.size + 1 := by simpa using hat
        have f0 := step_same e6 e9 _ hgrow 0
        have f1 := step_same e6 e9 _ hgrow 1
        rw [e0, e4] at f0
        rw [e1, e3] at f1
        obtain ⟨f0, x0⟩ := f0
        obtain ⟨f1, x1⟩ := f1
        have S := step_field (f := 1) (f' := 0) (by omega) e0 e2 e4 e3 (by omega) e6 e5 e7' e9 e8 _ hown hgrow hat' _ rfl
        obtain ⟨s1, s2, s3, s4, s5, s6, s7, s8, s9⟩ := S
        have s0 : (w2.setCell ⟨w.heap.size, 1, none⟩ (.slice (some ⟨g2, 0, none⟩) (k + 1) cap2)).cell? ⟨w.heap.size, 1, none⟩ = some (.slice (some ⟨g2, 0, none⟩) (k + 1) cap2) := World.cell?_setCell_same _ _ _ f1
        have s7' : ∀ q, (Value.slice (some ⟨g, 0, none⟩) (k + 1) cap1).ownBlock = some q → (Value.slice (some ⟨g2, 0, none⟩) (k + 1) cap2).ownBlock ≠ some q := fun q h1 h2 => s7 q h2 h1
        clear hown hgrow hat hat' e0 e1 e2 e3 e4 e5 e6 e7 e7' e8 e9 d0 d1 y0 y1
        go_wp2
        go_roundw
        case rel => exact ⟨k + 1, by omega, by go_num, _, _, s1, s0, s2, s3, s4, by rw [HT.out]; exact s6, by rw [HT.out]; exact s5, s7', s8, s9⟩
        case measure => simp [intOf]; omega
    · obtain rfl : k = xs.length + 24 := by omega
      have HTK : Hid ((lendL xs).take (xs.length + 24) = lendL xs) := by show _ = _; rw [← HL.out]; exact List.take_length
      rw [HTK.out] at of ow
      go_wp2
      go_ret
      rcases of.row with ⟨_, e⟩ | ⟨gf, cf, rfl, bf, rf⟩
      · have := HL.out; rw [e] at this; simp at this
      rcases ow.row with ⟨_, e⟩ | ⟨gw, cw, rfl, bw, rw'⟩
      · have := HL.out; rw [e] at this; simp at this
      exact ⟨gf, cf, gw, cw, rfl, ⟨c0, c1, c2, rf, rw', fun e => dis gf rfl (by rw [e]; rfl), by omega, by omega, by rw [HL.out]; omega, lt, rfl⟩, bel⟩
end Go.Proofs.YtfelogbfijomiaaDoor

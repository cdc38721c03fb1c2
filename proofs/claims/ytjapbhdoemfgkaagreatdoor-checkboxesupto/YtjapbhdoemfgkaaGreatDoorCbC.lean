import Derived.Test.YtjapbhdoemfgkaaGreatDoorCbB
namespace Go.Proofs.YtjapbhdoemfgkaaGreatDoor
open Go.RowKit

/-- Two lists in two blocks. -/
def NE (u v : Value) : Prop := ∀ g, u.ownBlock = some g → v.ownBlock = some g → False
theorem NE.symm {u v : Value} (h : NE u v) : NE v u := fun g a b => h g b a
theorem NE.nil (v : Value) : NE (.slice none 0 0) v := fun g a _ => by simp [Value.ownBlock] at a
theorem NE.grown {u v : Value} {g1 n c H H' : Nat} (N : NE u v) (hv : ∀ g, v.ownBlock = some g → g < H) (hat : u.ownBlock = some g1 ∨ g1 = H') (hH : H ≤ H') : NE (.slice (some ⟨g1, 0, none⟩) n c) v := by
  intro g e1 e2
  have e3 : g1 = g := by simpa [Value.ownBlock] using e1
  subst e3
  rcases hat with h | h
  · exact N _ h e2
  · have := hv _ e2; omega
theorem Rw.set {t : TypeId} {w : World} {R : Nat} {cs : Array Value} (h : Rw t w R cs) (i : Nat) (v : Value) : Rw t (w.setCell ⟨R, i, none⟩ v) R (cs.setIfInBounds i v) ∧ Off R w (w.setCell ⟨R, i, none⟩ v) := by
  refine ⟨?_, (Off.refl _ _).set i v⟩
  unfold Rw at *
  simp [World.setCell, Array.getElem?_modify, h]
/-- v owns a list of n fractions, the list from block B on, each of them told before block A. -/
def TX (w : World) (A B : Nat) (v : Value) (n : Nat) (X : Nat → Rat) (Z : Nat → Nat) : Prop :=
  ∃ vs : List Value, w.ownsRow B 28 3 v n vs ∧ ∀ i, i < n → ∃ p a na ca d nd cd, vs[i * 3]? = some (.bool p) ∧ vs[i * 3 + 1]? = some (.slice a na ca) ∧ vs[i * 3 + 2]? = some (.slice d nd cd) ∧ ∀ w', Below A w w' → TR w' p a na ca d nd cd (X i) (Z i)
theorem TX.nil (w : World) (A B : Nat) (X : Nat → Rat) (Z : Nat → Nat) : TX w A B (.slice none 0 0) 0 X Z := ⟨[], World.ownsRow_nil _ _ _ _, fun i hi => by omega⟩
theorem TX.form {w : World} {A B : Nat} {v : Value} {n : Nat} {X : Nat → Rat} {Z : Nat → Nat} (h : TX w A B v n X Z) : ∃ a cap, v = .slice a n cap ∧ n ≤ cap := by
  obtain ⟨vs, h1, h2⟩ := h
  rcases h1.2 with ⟨rfl, rfl⟩ | ⟨g, cap, cur, e1, _, _, e2, _⟩
  · exact ⟨_, _, rfl, Nat.le_refl _⟩
  · exact ⟨_, _, e1, e2⟩
theorem RL.form2 {w : World} {B : Nat} {v : Value} {n : Nat} {X : Nat → Rat} {S : Nat} (h : RL w B v n X S) : ∃ a cap, v = .slice a n cap ∧ n ≤ cap := by
  obtain ⟨vs, h1, h2⟩ := h
  rcases h1.2 with ⟨rfl, rfl⟩ | ⟨g, cap, cur, e1, _, _, e2, _⟩
  · exact ⟨_, _, rfl, Nat.le_refl _⟩
  · exact ⟨_, _, e1, e2⟩
theorem TX.lt {w : World} {A B : Nat} {v : Value} {n : Nat} {X : Nat → Rat} {Z : Nat → Nat} (h : TX w A B v n X Z) : ∀ k, v.ownBlock = some k → B ≤ k ∧ k < w.heap.size := by
  obtain ⟨vs, h1, h2⟩ := h
  exact World.ownsRow.lt h1
theorem TX.below {w w' : World} {A B : Nat} {v : Value} {n : Nat} {X : Nat → Rat} {Z : Nat → Nat} (h : TX w A B v n X Z) (hA : A ≤ w.heap.size) (hb : Below w.heap.size w w') : TX w' A B v n X Z := by
  obtain ⟨vs, h1, h2⟩ := h
  refine ⟨vs, ⟨h1.1, ?_⟩, fun i hi => ?_⟩
  · rcases h1.2 with hn | ⟨g, cap, cur, e1, e2, hgb, rest⟩
    · exact .inl hn
    · exact .inr ⟨g, cap, cur, e1, e2, (hb.block g (Array.getElem?_eq_some_iff.1 hgb).1).trans hgb, rest⟩
  · obtain ⟨p, a, na, ca, d, nd, cd, g1, g2, g3, g4⟩ := h2 i hi
    exact ⟨p, a, na, ca, d, nd, cd, g1, g2, g3, fun w2 k => g4 w2 ((hb.mono hA).trans k)⟩
theorem TX.off {w w' : World} {A B g : Nat} {v : Value} {n : Nat} {X : Nat → Rat} {Z : Nat → Nat} (h : TX w A B v n X Z) (o : Off g w w') (hA : A ≤ g) (hB : g < B) : TX w' A B v n X Z := by
  have hlt := h.lt
  obtain ⟨vs, h1, h2⟩ := h
  refine ⟨vs, ⟨h1.1, ?_⟩, fun i hi => ?_⟩
  · rcases h1.2 with hn | ⟨g', cap, cur, e1, e2, hgb, rest⟩
    · exact .inl hn
    · exact .inr ⟨g', cap, cur, e1, e2, (o.block g' (by have := hlt g' (by rw [e1]; rfl); omega)).trans hgb, rest⟩
  · obtain ⟨p, a, na, ca, d, nd, cd, g1, g2, g3, g4⟩ := h2 i hi
    exact ⟨p, a, na, ca, d, nd, cd, g1, g2, g3, fun w2 k => g4 w2 ((o.below hA).trans k)⟩
theorem RL.off {w w' : World} {B g : Nat} {v : Value} {n : Nat} {X : Nat → Rat} {S : Nat} (h : RL w B v n X S) (o : Off g w w') (hB : g < B) : RL w' B v n X S := by
  have hlt := h.lt
  obtain ⟨vs, h1, h2⟩ := h
  refine ⟨vs, ⟨h1.1, ?_⟩, fun i hi => ?_⟩
  · rcases h1.2 with hn | ⟨g', cap, cur, e1, e2, hgb, rest⟩
    · exact .inl hn
    · exact .inr ⟨g', cap, cur, e1, e2, (o.block g' (by have := hlt g' (by rw [e1]; rfl); omega)).trans hgb, rest⟩
  · obtain ⟨p, a, na, ca, d, nd, cd, g1, g2, g3, g4⟩ := h2 i hi
    exact ⟨p, a, na, ca, d, nd, cd, g1, g2, g3, g4.off o hB⟩
theorem TX.lq {w : World} {A B : Nat} {a : Option Addr} {m n cap : Nat} {X : Nat → Rat} {Z : Nat → Nat} (h : TX w A B (.slice a m cap) n X Z) : LQ w a n X Z := by
  obtain ⟨vs, h1, h2⟩ := h
  rcases h1.2 with ⟨e1, e2⟩ | ⟨g, cap, cur, e1, _, hg, _, _, _, ht⟩
  · exact .inl e2
  · simp only [Value.slice.injEq] at e1
    obtain ⟨rfl, _, _⟩ := e1
    refine .inr ⟨g, 0, rfl, fun i hi => ?_⟩
    obtain ⟨p, a, na, ca, d, nd, cd, g1, g2, g3, g4⟩ := h2 i hi
    refine ⟨p, a, na, ca, d, nd, cd, ?_, ?_, ?_, g4 w (Below.refl _ _)⟩
    · rw [Nat.zero_add]; exact row_cell hg ht g1
    · rw [Nat.zero_add]; exact row_cell hg ht g2
    · rw [Nat.zero_add]; exact row_cell hg ht g3
theorem TX.growR {w w' : World} {A B : Nat} {v : Value} {n : Nat} {X : Nat → Rat} {Z : Nat → Nat} (h : TX w A B v n X Z) (hA : A ≤ B) (hW : B ≤ w.heap.size) {lv : Value} {m : Nat} {Y : Nat → Rat} {R : Nat} (k : RL w B lv m Y R) (hne : NE v lv) (hg : w.grownBy w' lv.ownBlock) : TX w' A B v n X Z := by
  have hlt := k.lt
  obtain ⟨vs, h1, h2⟩ := h
  refine ⟨vs, World.ownsRow.kept h1 hg (row_or (fun g e1 e2 => hne g e1 e2)), fun i hi => ?_⟩
  obtain ⟨p, a, na, ca, d, nd, cd, g1, g2, g3, g4⟩ := h2 i hi
  exact ⟨p, a, na, ca, d, nd, cd, g1, g2, g3, fun w2 q => g4 w2 ((grown_below hg (by omega) (fun g e => by have := hlt g e; omega)).trans q)⟩
theorem RL.growT {w w' : World} {A B : Nat} {v : Value} {n : Nat} {X : Nat → Rat} {S : Nat} (h : RL w B v n X S) {lv : Value} {m : Nat} {Y : Nat → Rat} {Z : Nat → Nat} (k : TX w A B lv m Y Z) (hne : NE v lv) (hg : w.grownBy w' lv.ownBlock) : RL w' B v n X S := by
  obtain ⟨vs, h1, h2⟩ := h
  obtain ⟨us, k1, k2⟩ := k
  refine ⟨vs, World.ownsRow.kept h1 hg (row_or (fun g e1 e2 => hne g e1 e2)), fun i hi => ?_⟩
  obtain ⟨p, a, na, ca, d, nd, cd, g1, g2, g3, g4⟩ := h2 i hi
  exact ⟨p, a, na, ca, d, nd, cd, g1, g2, g3, g4.grow3 k1 hg⟩
/-- 'append(v, x)' at a plain region: x was told before. -/
theorem wpList_appendTX (w : World) {ops : Array Oper} {rest : List Oper} {o : Oper} {a : Act} {Q : Exit → Act → World → Prop} (hgd : o.guard = none) (s x : Operand)
    (ho : o.op = .call { callee := .builtin .append, args := #[s, x], argTypes := #[33, 33] }) (A B : Nat) (v : Value) (n : Nat) (X : Nat → Rat) (Z : Nat → Nat) (hs : a.eval s = v) (hown : TX w A B v n X Z) (h c : Nat) (hx : a.eval x = .slice (some ⟨h, 0, none⟩) 1 c)
    (f : Bool) (c1 : Option Addr) (n1 k1 : Nat) (c2 : Option Addr) (n2 k2 : Nat) (hc : w.cell? ⟨h, 0, none⟩ = some (.bool f) ∧ w.cell? ⟨h, 1, none⟩ = some (.slice c1 n1 k1) ∧ w.cell? ⟨h, 2, none⟩ = some (.slice c2 n2 k2)) (hG : ∀ w', Below A w w' → TR w' f c1 n1 k1 c2 n2 k2 (X n) (Z n))
    (hlen : n ≤ 1000000000000) (hA : A ≤ B) (hB : B ≤ w.heap.size) (H : Nat) (hH : w.heap.size = H)
    (hK : ∀ g cap w', TX w' A B (.slice (some ⟨g, 0, none⟩) (n + 1) cap) (n + 1) X Z → w.grownBy w' v.ownBlock → (v.ownBlock = some g ∨ g = H) → g < w'.heap.size → wpList Tryz.prog ops Q rest (a.put o.dst (.slice (some ⟨g, 0, none⟩) (n + 1) cap)) w') :
    wpList Tryz.prog ops Q (o :: rest) a w := by
  have hlt := hown.lt
  obtain ⟨vs, h1, h2⟩ := hown
  obtain ⟨i0, z, hi, hz, hs3, hb56, hz3⟩ := info3
  refine wpList_append_lies w hgd s x 33 ho B 28 i0 z 3 56 Tryz.underlying33 hi hz hs3 hb56 hz3 (by decide) v n vs hs h1 ⟨h, 0, none⟩ 1 c [.bool f, .slice c1 n1 k1, .slice c2 n2 k2] hx rfl ?_ (fun u hu => by simp at hu; rcases hu with rfl | rfl | rfl <;> rfl) (by decide) (by unfold maxLen; omega) (by omega) hB H hH ?_
  · intro j u hj
    match j, hj with
    | 0, hj => simp at hj; subst hj; simpa [Addr.add] using hc.1
    | 1, hj => simp at hj; subst hj; simpa [Addr.add] using hc.2.1
    | 2, hj => simp at hj; subst hj; simpa [Addr.add] using hc.2.2
  · intro g cap w' r1 r2 r3 r4
    have hbel : Below A w w' := grown_below r2 (by omega) (fun k hk => by have := hlt k hk; omega)
    refine hK g cap w' ⟨_, r1, fun i hi => ?_⟩ r2 r3 r4
    rcases (by omega : i < n ∨ i = n) with hi | rfl
    · obtain ⟨p, a, na, ca, d, nd, cd, g1, g2, g3, g4⟩ := h2 i hi
      have e : vs.length = n * 3 := h1.1
      refine ⟨p, a, na, ca, d, nd, cd, ?_, ?_, ?_, fun w2 q => g4 w2 (hbel.trans q)⟩
      · rw [List.getElem?_append_left (by omega)]; exact g1
      · rw [List.getElem?_append_left (by omega)]; exact g2
      · rw [List.getElem?_append_left (by omega)]; exact g3
    · obtain ⟨e1, e2, e3⟩ := vs_snoc (x := .bool f) (y := .slice c1 n1 k1) (z := .slice c2 n2 k2) h1.1
      exact ⟨f, c1, n1, k1, c2, n2, k2, e1, e2, e3, fun w2 q => hG w2 (hbel.trans q)⟩
theorem Rw.mid {w : World} {R : Nat} {t : TypeId} {v0 v1 v2 v3 v4 v5 v6 a b c : Value} (h : Rw t w R #[v0, v1, v2, v3, v4, v5, v6]) :
    Rw t (((w.setCell ⟨R, 1, none⟩ a).setCell ⟨R, 2, none⟩ b).setCell ⟨R, 3, none⟩ c) R #[v0, a, b, c, v4, v5, v6] ∧ Off R w (((w.setCell ⟨R, 1, none⟩ a).setCell ⟨R, 2, none⟩ b).setCell ⟨R, 3, none⟩ c) := by
  obtain ⟨h1, _⟩ := h.set 1 a
  obtain ⟨h2, _⟩ := h1.set 2 b
  obtain ⟨h3, _⟩ := h2.set 3 c
  exact ⟨h3, (((Off.refl _ _).set 1 _).set 2 _).set 3 _⟩
theorem Rw.grown {t : TypeId} {w w' : World} {R : Nat} {cs : Array Value} (h : Rw t w R cs) {row : Option Nat} (hg : w.grownBy w' row) (hne : row ≠ some R) : Rw t w' R cs := (hg.block R h.lt (fun e => hne e.symm)).trans h
theorem BoxC.off {w w' : World} {R g : Nat} {cs : List Value} (h : BoxC w R cs) (o : Off g w w') (hg : R ≠ g) : BoxC w' R cs := fun i u hu => (World.cell?_of_block (o.block R hg)).trans (h i u hu)
theorem BoxC.grown {w w' : World} {R : Nat} {cs : List Value} (h : BoxC w R cs) {row : Option Nat} (hg : w.grownBy w' row) (hne : row ≠ some R) : BoxC w' R cs := fun i u hu => keep_ne hg (h i u hu) hne
theorem tot_mon2 {Z Y : Nat → Nat} : ∀ {n : Nat}, (∀ i, i < n → Z i ≤ Y i) → tot Z n ≤ tot Y n
  | 0, _ => Nat.le_refl _
  | n + 1, h => by
    have h1 := tot_mon2 (n := n) (fun i hi => h i (by omega))
    have h2 := h n (by omega)
    show tot Z n + Z n + 1 ≤ tot Y n + Y n + 1
    omega
/-- The verdict behind j variables. -/
def vdj (mx : Bool) (V : Nat → PV) : Nat → Int
  | 0 => 1
  | j + 1 => if bz mx (V j) = 0 then vdj mx V j else 3
theorem vdj_or (mx : Bool) (V : Nat → PV) : ∀ n, (vdj mx V n = 1 ∧ ∀ j, j < n → bz mx (V j) = 0) ∨ (vdj mx V n = 3 ∧ ∃ j, j < n ∧ bz mx (V j) ≠ 0)
  | 0 => .inl ⟨rfl, fun j hj => by omega⟩
  | n + 1 => by
    unfold vdj
    by_cases h : bz mx (V n) = 0
    · rw [if_pos h]
      rcases vdj_or mx V n with ⟨h1, h2⟩ | ⟨h1, j, hj, h2⟩
      · refine .inl ⟨h1, fun j hj => ?_⟩
        rcases (by omega : j < n ∨ j = n) with hj | rfl
        · exact h2 j hj
        · exact h
      · exact .inr ⟨h1, j, by omega, h2⟩
    · rw [if_neg h]
      exact .inr ⟨rfl, n, by omega, h⟩
/-- The problem of CheckBoxes. -/
def bxP (mx : Bool) (p : Bool) (a : Option Addr) (na ca : Nat) (d : Option Addr) (nd cd : Nat) (va : Option Addr) (n vc : Nat) (k : Rat) (V : Nat → PV) (ZV : Nat → Nat) (S : Nat) : Prob :=
  { mx := mx, nm := ⟨#[]⟩, p := p, a := a, na := na, ca := ca, d := d, nd := nd, cd := cd, va := va, vn := n, vc := vc, ra := none, rn := 0, rc := 0, k := k, V := V, ZV := ZV, R := fun _ => { nm := ⟨#[]⟩, nt := 0, t := fun _ => { var := 0, coef := 0 }, hlo := false, lo := 0, hhi := false, hi := 0 }, ZR := fun _ => 1, S := S, K := S + tot ZV n + 1 }
theorem bxP_q {w : World} {mx : Bool} {p : Bool} {a : Option Addr} {na ca : Nat} {d : Option Addr} {nd cd : Nat} {va : Option Addr} {n vc : Nat} {k : Rat} {V : Nat → PV} {ZV : Nat → Nat} {S : Nat} (hk : TR w p a na ca d nd cd k S) (h1 : 1 ≤ S) (hv : LV w va n V ZV) (hvc : n ≤ vc) : PQ w (bxP mx p a na ca d nd cd va n vc k V ZV S) :=
  ⟨hk, h1, hk.sz h1, hv, .inl rfl, Nat.le_refl (S + tot ZV n + 1), hvc, Nat.le_refl _⟩
/-- Its certificates. -/
def bxC (vd : Int) (p : Bool) (a : Option Addr) (na ca : Nat) (d : Option Addr) (nd cd : Nat) (xa : Option Addr) (n xc : Nat) (za : Option Addr) (zc : Nat) (v : Rat) (X Z : Nat → Rat) (ZX : Nat → Nat) (S : Nat) : Crt :=
  { vd := vd, p := p, a := a, na := na, ca := ca, d := d, nd := nd, cd := cd, xa := xa, xn := n, xc := xc, ya := none, yn := 0, yc := 0, za := za, zn := n, zc := zc, v := v, X := X, Y := fun _ => 0, Z := Z, ZX := ZX, ZY := fun _ => 1, ZZ := fun _ => 1, S := S, K := S + tot ZX n + 1 + tot (fun _ => 1) n }
theorem bxC_q {w : World} {vd : Int} {p : Bool} {a : Option Addr} {na ca : Nat} {d : Option Addr} {nd cd : Nat} {xa : Option Addr} {n xc : Nat} {za : Option Addr} {zc : Nat} {v : Rat} {X Z : Nat → Rat} {ZX : Nat → Nat} {S : Nat} (hv : TR w p a na ca d nd cd v S) (h1 : 1 ≤ S) (hx : LQ w xa n X ZX) (hzx : ∀ i, i < n → 1 ≤ ZX i ∧ SzR (X i) (ZX i)) (hz : LQ w za n Z (fun _ => 1)) (hzz : ∀ i, i < n → SzR (Z i) 1) (hxc : n ≤ xc) (hzc : n ≤ zc) : CQ w (bxC vd p a na ca d nd cd xa n xc za zc v X Z ZX S) :=
  ⟨hv, h1, hv.sz h1, hx, hzx, .inl rfl, fun _ hi => absurd hi (Nat.not_lt_zero _), hz, fun i hi => ⟨Nat.le_refl _, hzz i hi⟩, Nat.le_refl (S + tot ZX n + 1 + tot (fun _ => 1) n), hxc, hzc⟩
/-- A certificate that says: infeasible. -/
def bxI : Crt := { vd := 2, p := false, a := none, na := 0, ca := 0, d := none, nd := 0, cd := 0, xa := none, xn := 0, xc := 0, ya := none, yn := 0, yc := 0, za := none, zn := 0, zc := 0, v := 0, X := fun _ => 0, Y := fun _ => 0, Z := fun _ => 0, ZX := fun _ => 1, ZY := fun _ => 1, ZZ := fun _ => 1, S := 1, K := 4 }
theorem bxI_q (w : World) : CQ w bxI :=
  ⟨tr_o14 w, Nat.le_refl _, szr0 (Nat.le_refl _), .inl rfl, fun _ hi => absurd hi (Nat.not_lt_zero _), .inl rfl, fun _ hi => absurd hi (Nat.not_lt_zero _), .inl rfl, fun _ hi => absurd hi (Nat.not_lt_zero _), Nat.le_of_ble_eq_true rfl, Nat.le_refl _, Nat.le_refl _⟩
theorem bx_sz {mx : Bool} {v : PV} {Z : Nat} (h1 : 1 ≤ Z) (hl : SzR v.lo Z) (hh : SzR v.hi Z) : SzR (bx mx v) Z := by
  unfold bx
  split
  · exact hh
  · split
    · exact hl
    · exact szr0 h1
theorem bz_sz (mx : Bool) (v : PV) : SzR ((bz mx v : Int) : Rat) 1 := by
  unfold bz
  split
  · exact szw 1 (by decide)
  · split
    · exact szw (-1) (by decide)
    · exact szw 0 (by decide)
/-- nil held against an error. -/
theorem eqN14 (w : World) (a : Addr) : (binOp .eql 42 .nilIface (.iface 131 (.pointer (some a)))).run Tryz.prog w = .ok (.bool false) w := by kernel_rfl
end Go.Proofs.YtjapbhdoemfgkaaGreatDoor

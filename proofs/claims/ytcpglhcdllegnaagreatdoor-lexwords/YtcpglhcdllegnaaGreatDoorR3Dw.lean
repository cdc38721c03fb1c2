import Derived.Test.YtcpglhcdllegnaaGreatDoorR3S
import Derived.Test.YtcpglhcdllegnaaGreatDoorR3SM
import Derived.Test.YtcpglhcdllegnaaGreatDoorR3Do
import Derived.Test.YtcpglhcdllegnaaGreatDoorR3Rl
namespace Go.Proofs.YtcpglhcdllegnaaGreatDoor
open Go.RowKit

/-- Two lists in two blocks. -/
def NE (u v : Value) : Prop := ∀ g, u.ownBlock = some g → v.ownBlock = some g → False
theorem NE.symm {u v : Value} (h : NE u v) : NE v u := fun g a b => h g b a
theorem NE.nil (v : Value) : NE (.slice none 0 0) v := fun g a _ => by simp [Value.ownBlock] at a
theorem NE.grown {u v : Value} {g1 n c H H' : Nat} (N : NE u v) (hv : ∀ g, v.ownBlock = some g → g < H) (hat : u.ownBlock = some g1 ∨ g1 = H') (hH : H ≤ H') : NE (.slice (some ⟨g1, 0, none⟩) n c) v := by
  intro g e1 e2
  have e3 : g1 = g := by simpa [Value.ownBlock] using e1
  subst e3
  rcases hat with h | h
  · exact N _ h e2
  · have := hv _ e2; omega
/-- 'append(v, x)' at a plain region: x is told in whatever way. -/
theorem wpList_appendT (w : World) {ops : Array Oper} {rest : List Oper} {o : Oper} {a : Act} {Q : Exit → Act → World → Prop} (hgd : o.guard = none) (s x : Operand)
    (ho : o.op = .call { callee := .builtin .append, args := #[s, x], argTypes := #[71, 71] }) (B : Nat) (v : Value) (n : Nat) (X : Nat → Rat) (S : Nat) (hs : a.eval s = v) (hown : RL w B v n X S) (h c : Nat) (hx : a.eval x = .slice (some ⟨h, 0, none⟩) 1 c)
    (f : Bool) (c1 : Option Addr) (n1 k1 : Nat) (c2 : Option Addr) (n2 k2 : Nat) (r : Rat) (K : Nat) (hc : w.cell? ⟨h, 0, none⟩ = some (.bool f) ∧ w.cell? ⟨h, 1, none⟩ = some (.slice c1 n1 k1) ∧ w.cell? ⟨h, 2, none⟩ = some (.slice c2 n2 k2)) (hG : ∀ w', Below B w w' → TR w' f c1 n1 k1 c2 n2 k2 r K)
    (hlen : n ≤ 1000000000000) (hB : B ≤ w.heap.size) (H : Nat) (hH : w.heap.size = H)
    (hK : ∀ g cap w', LQ w' (some ⟨g, 0, none⟩) (n + 1) (fun i => if i < n then X i else r) (fun i => if i < n then S else K) → w.grownBy w' v.ownBlock → Below B w w' → wpList Tryz.prog ops Q rest (a.put o.dst (.slice (some ⟨g, 0, none⟩) (n + 1) cap)) w') :
    wpList Tryz.prog ops Q (o :: rest) a w := by
  have hrow : ∀ k, v.ownBlock = some k → B ≤ k := fun k hk => (hown.lt k hk).1
  obtain ⟨vs, h1, h2⟩ := hown
  obtain ⟨i0, z, hi, hz, hs3, hb56, hz3⟩ := info3
  refine wpList_append_lies w hgd s x 71 ho B 48 i0 z 3 56 Tryz.underlying71 hi hz hs3 hb56 hz3 (by decide) v n vs hs h1 ⟨h, 0, none⟩ 1 c [.bool f, .slice c1 n1 k1, .slice c2 n2 k2] hx rfl ?_ (fun u hu => by simp at hu; rcases hu with rfl | rfl | rfl <;> rfl) (by decide) (by unfold maxLen; omega) (by omega) hB H hH ?_
  · intro j u hj
    match j, hj with
    | 0, hj => simp at hj; subst hj; simpa [Addr.add] using hc.1
    | 1, hj => simp at hj; subst hj; simpa [Addr.add] using hc.2.1
    | 2, hj => simp at hj; subst hj; simpa [Addr.add] using hc.2.2
  · intro g cap w' r1 r2 r3 r4
    have hbel : Below B w w' := grown_below r2 hB hrow
    refine hK g cap w' (.inr ⟨g, 0, rfl, fun i hi => ?_⟩) r2 hbel
    rcases r1.2 with ⟨e1, _⟩ | ⟨g', cap', cur, e1, _, hg, _, _, _, ht⟩
    · cases e1
    · have eg : g = g' := by simp only [Value.slice.injEq, Option.some.injEq, Addr.mk.injEq] at e1; exact e1.1.1
      subst eg
      rcases (by omega : i < n ∨ i = n) with hi | rfl
      · obtain ⟨p, a, na, ca, d, nd, cd, g1, g2, g3, g4⟩ := h2 i hi
        have e : vs.length = n * 3 := h1.1
        simp only [hi, if_true]
        refine ⟨p, a, na, ca, d, nd, cd, ?_, ?_, ?_, (g4.grow3 h1 r2).tr⟩
        · rw [Nat.zero_add]; exact row_cell hg ht (by rw [List.getElem?_append_left (by omega)]; exact g1)
        · rw [Nat.zero_add]; exact row_cell hg ht (by rw [List.getElem?_append_left (by omega)]; exact g2)
        · rw [Nat.zero_add]; exact row_cell hg ht (by rw [List.getElem?_append_left (by omega)]; exact g3)
      · obtain ⟨e1, e2, e3⟩ := vs_snoc (x := .bool f) (y := .slice c1 n1 k1) (z := .slice c2 n2 k2) h1.1
        simp only [Nat.lt_irrefl, if_false]
        refine ⟨f, c1, n1, k1, c2, n2, k2, ?_, ?_, ?_, hG w' hbel⟩
        · rw [Nat.zero_add]; exact row_cell hg ht e1
        · rw [Nat.zero_add]; exact row_cell hg ht e2
        · rw [Nat.zero_add]; exact row_cell hg ht e3
theorem rdot_comm (X Y : Nat → Rat) (n : Nat) : rdot Y X n = rdot X Y n := rsum_congr fun _ _ => Rat.mul_comm _ _
theorem rdot_scale (X Y : Nat → Rat) (k : Rat) (n : Nat) : rdot (fun i => X i * k) Y n = rdot X Y n * k := by
  unfold rdot
  rw [← rsum_mul]
  exact rsum_congr fun _ _ => by rw [Rat.mul_assoc, Rat.mul_comm k, Rat.mul_assoc]
theorem rdot_both (X Y : Nat → Rat) (k : Rat) (n : Nat) : rdot (fun i => X i + X i * k) Y n = rdot X Y n + rdot X Y n * k := by
  rw [← rdot_scale]
  unfold rdot
  rw [← rsum_add]
  exact rsum_congr fun _ _ => by rw [Rat.add_mul]
theorem rdot_ones (X : Nat → Rat) (n : Nat) : rdot X (fun _ => ((1 : Int) : Rat)) n = rsum X n := rsum_congr fun _ _ => by rw [show ((1 : Int) : Rat) = 1 from rfl, Rat.mul_one]
theorem rdot_more (X : Nat → Rat) (r : Rat) {n j : Nat} (hj : j ≤ n) : rdot X (fun i => if i < n then ((1 : Int) : Rat) else r) j = rsum X j := rsum_congr fun i hi => by
  simp only [show i < n by omega, if_true]
  rw [show ((1 : Int) : Rat) = 1 from rfl, Rat.mul_one]
theorem bel_s3 {w w1 : World} {B R : Nat} {u v z : Value} (h : Below B w w1) (hR : B ≤ R) : Below B w (((w1.setCell ⟨R, 0, none⟩ u).setCell ⟨R, 1, none⟩ v).setCell ⟨R, 2, none⟩ z) := h.trans (((((Off.refl _ _).set 0 u).set 1 v).set 2 z).below hR)
end Go.Proofs.YtcpglhcdllegnaaGreatDoor

import Derived.Test.YtkgnbcbcgnlodaaGreatDoorPsA
import Derived.Test.YtkgnbcbcgnlodaaGreatDoorWdAll
namespace Go.Proofs.YtkgnbcbcgnlodaaGreatDoor
open Go.RowKit

/-- A variable, its numbers anywhere. -/
def VarG (w : World) (g o : Nat) (v : PV) (S : Nat) : Prop :=
  ∃ p1 a1 n1 k1 d1 m1 l1 p2 a2 n2 k2 d2 m2 l2 p3 a3 n3 k3 d3 m3 l3, (∀ j u, [.string v.nm, .bool p1, .slice a1 n1 k1, .slice d1 m1 l1, .bool v.hlo, .bool p2, .slice a2 n2 k2, .slice d2 m2 l2, .bool v.hhi, .bool p3, .slice a3 n3 k3, .slice d3 m3 l3, .bool v.whole][j]? = some u → w.cell? ⟨g, o + j, none⟩ = some u) ∧ GR w 0 p1 a1 n1 k1 d1 m1 l1 v.obj S ∧ GR w 0 p2 a2 n2 k2 d2 m2 l2 v.lo S ∧ GR w 0 p3 a3 n3 k3 d3 m3 l3 v.hi S
theorem VarG.below {w w' : World} {g o : Nat} {v : PV} {S : Nat} (h : VarG w g o v S) (hb : Below w.heap.size w w') : VarG w' g o v S := by
  obtain ⟨p1, a1, n1, k1, d1, m1, l1, p2, a2, n2, k2, d2, m2, l2, p3, a3, n3, k3, d3, m3, l3, e, g1, g2, g3⟩ := h
  exact ⟨p1, a1, n1, k1, d1, m1, l1, p2, a2, n2, k2, d2, m2, l2, p3, a3, n3, k3, d3, m3, l3, fun j u hu => kept_c hb (e j u hu), g1.below hb, g2.below hb, g3.below hb⟩
/-- A list of variables. -/
def LG (w : World) (va : Option Addr) (n : Nat) (V : Nat → PV) (S : Nat) : Prop := n = 0 ∨ ∃ g, va = some ⟨g, 0, none⟩ ∧ ∀ j, j < n → VarG w g (j * 13) (V j) S
theorem LG.below {w w' : World} {va : Option Addr} {n : Nat} {V : Nat → PV} {S : Nat} (h : LG w va n V S) (hb : Below w.heap.size w w') : LG w' va n V S := by
  rcases h with h | ⟨g, e, h⟩
  · exact .inl h
  · exact .inr ⟨g, e, fun j hj => (h j hj).below hb⟩
/-- A list of terms, their numbers anywhere. -/
def LTG (w : World) (ta : Option Addr) (n : Nat) (t : Nat → PT) (S : Nat) : Prop := n = 0 ∨ ∃ g, ta = some ⟨g, 0, none⟩ ∧ ∀ i, i < n → ∃ p a na ca d nd cd, w.cell? ⟨g, i * 4, none⟩ = some (.int .i64 (t i).var) ∧ w.cell? ⟨g, i * 4 + 1, none⟩ = some (.bool p) ∧ w.cell? ⟨g, i * 4 + 2, none⟩ = some (.slice a na ca) ∧ w.cell? ⟨g, i * 4 + 3, none⟩ = some (.slice d nd cd) ∧ GR w 0 p a na ca d nd cd (t i).coef S
theorem LTG.below {w w' : World} {ta : Option Addr} {n : Nat} {t : Nat → PT} {S : Nat} (h : LTG w ta n t S) (hb : Below w.heap.size w w') : LTG w' ta n t S := by
  rcases h with h | ⟨g, e, h⟩
  · exact .inl h
  · refine .inr ⟨g, e, fun i hi => ?_⟩
    obtain ⟨p, a, na, ca, d, nd, cd, h1, h2, h3, h4, h5⟩ := h i hi
    exact ⟨p, a, na, ca, d, nd, cd, kept_c hb h1, kept_c hb h2, kept_c hb h3, kept_c hb h4, h5.below hb⟩
/-- A row, its numbers anywhere. -/
def RowG (w : World) (g o : Nat) (r : PW) (S : Nat) : Prop :=
  ∃ ta tc p2 a2 n2 k2 d2 m2 l2 p3 a3 n3 k3 d3 m3 l3, (∀ j u, [.string r.nm, .slice ta r.nt tc, .bool r.hlo, .bool p2, .slice a2 n2 k2, .slice d2 m2 l2, .bool r.hhi, .bool p3, .slice a3 n3 k3, .slice d3 m3 l3][j]? = some u → w.cell? ⟨g, o + j, none⟩ = some u) ∧ LTG w ta r.nt r.t S ∧ GR w 0 p2 a2 n2 k2 d2 m2 l2 r.lo S ∧ GR w 0 p3 a3 n3 k3 d3 m3 l3 r.hi S
theorem RowG.below {w w' : World} {g o : Nat} {r : PW} {S : Nat} (h : RowG w g o r S) (hb : Below w.heap.size w w') : RowG w' g o r S := by
  obtain ⟨ta, tc, p2, a2, n2, k2, d2, m2, l2, p3, a3, n3, k3, d3, m3, l3, e, g1, g2, g3⟩ := h
  exact ⟨ta, tc, p2, a2, n2, k2, d2, m2, l2, p3, a3, n3, k3, d3, m3, l3, fun j u hu => kept_c hb (e j u hu), g1.below hb, g2.below hb, g3.below hb⟩
/-- What Tidy gives, its numbers one's own. -/
structure TG (w : World) (Q : Prob) (S : Nat) : Prop where
  v : LG w Q.va Q.vn Q.V S
  r : Q.rn = 0 ∨ ∃ g, Q.ra = some ⟨g, 0, none⟩ ∧ ∀ i, i < Q.rn → RowG w g (i * 10) (Q.R i) S
  t : ∀ i, i < Q.rn → ∀ q, q < (Q.R i).nt → 0 ≤ ((Q.R i).t q).var ∧ ((Q.R i).t q).var < (Q.vn : Int)
theorem TG.of {w : World} {B S : Nat} {P Q : Prob} (h : TOc w B P Q) (ht : Tid P Q) (hP : PQ w Q) (hS : Q.K ≤ S) : TG w Q S := by
  have hall := hP.all
  have hZV : ∀ j, j < P.vn → P.ZV j ≤ S := fun j hj => by
    have := tot_le (Z := Q.ZV) (n := Q.vn) (i := j) (by rw [ht.vn]; exact hj)
    rw [ht.ZV] at this
    rw [ht.ZV] at hall
    omega
  have hZR : ∀ j, j < P.rn → P.ZR j ≤ S := fun j hj => by
    have := tot_le (Z := Q.ZR) (n := Q.rn) (i := j) (by rw [ht.rn]; exact hj)
    rw [ht.ZR] at this
    rw [ht.ZR] at hall
    omega
  refine ⟨?_, ?_, ?_⟩
  · obtain ⟨E, hs, hV⟩ := h.v
    rcases hs.cell with h0 | ⟨g, e, hc⟩
    · exact .inl (by rw [ht.vn]; exact h0)
    · refine .inr ⟨g, e, fun j hj => ?_⟩
      rw [ht.vn] at hj
      obtain ⟨p1, a1, n1, k1, d1, m1, l1, p2, a2, n2, k2, d2, m2, l2, p3, a3, n3, k3, d3, m3, l3, e1, g1, g2, g3⟩ := hV j hj
      have hcj := hc j hj
      rw [e1] at hcj
      rw [ht.V j]
      exact ⟨p1, a1, n1, k1, d1, m1, l1, p2, a2, n2, k2, d2, m2, l2, p3, a3, n3, k3, d3, m3, l3, hcj, (g1.mono (Nat.zero_le _)).le (hZV j hj), (g2.mono (Nat.zero_le _)).le (hZV j hj), (g3.mono (Nat.zero_le _)).le (hZV j hj)⟩
  · obtain ⟨E, hs, hR⟩ := h.r
    rcases hs.cell with h0 | ⟨g, e, hc⟩
    · exact .inl (by rw [ht.rn]; exact h0)
    · refine .inr ⟨g, e, fun i hi => ?_⟩
      have hi' : i < P.rn := by rw [← ht.rn]; exact hi
      obtain ⟨v, m, u, Z, p2, a2, n2, k2, d2, m2, l2, p3, a3, n3, k3, d3, m3, l3, e1, g1, z1, z2, t1, g2, g3⟩ := hR i hi'
      have hcj := hc i hi'
      rw [e1] at hcj
      obtain ⟨e2, e3, e4, e5, e6, g4⟩ := ht.R i hi'
      obtain ⟨hm, hu⟩ := g1.uniq g4 (fun _ _ _ => rfl)
      obtain ⟨ta, tc, rfl, htc⟩ := t1.form
      rw [← e2, ← e3, ← e5] at hcj
      rw [← e4] at g2
      rw [← e6] at g3
      have hcj2 := hcj
      rw [hm] at hcj2
      obtain ⟨rb, ro, hRow⟩ := hP.row hi
      obtain ⟨ta2, tc2, Zt, _, hLT, htot, _⟩ := hRow.terms
      have hZ2 : Q.ZR i ≤ S := by
        have := tot_le (Z := Q.ZR) (n := Q.rn) hi
        omega
      refine ⟨ta, tc, p2, a2, n2, k2, d2, m2, l2, p3, a3, n3, k3, d3, m3, l3, hcj2, ?_, (g2.mono (Nat.zero_le _)).le (hZR i hi'), (g3.mono (Nat.zero_le _)).le (hZR i hi')⟩
      obtain ⟨E2, s1, s2⟩ := t1
      rcases s1.cell with h0 | ⟨g', ea, hcell⟩
      · exact .inl (by rw [← hm]; exact h0)
      · refine .inr ⟨g', ea, fun q hq => ?_⟩
        have hq' : q < m := by rw [hm]; exact hq
        obtain ⟨p, a, na, ca, d, nd, cd, e7, gc⟩ := s2 q hq'
        have hk := hcell q hq'
        rw [e7] at hk
        obtain ⟨v1, v2⟩ := hu q hq'
        rw [v1] at hk
        have hz := (hLT.get q hq).1.le (show Zt q ≤ S by have := tot_le (Z := Zt) hq; omega)
        exact ⟨p, a, na, ca, d, nd, cd, by simpa using hk 0 _ rfl, hk 1 _ rfl, hk 2 _ rfl, hk 3 _ rfl, ((gc.val v2).fit hz).mono (Nat.zero_le _)⟩
  · intro i hi q hq
    have hi' : i < P.rn := by rw [← ht.rn]; exact hi
    obtain ⟨_, _, _, _, _, g4⟩ := ht.R i hi'
    have := g4.lt q hq
    rw [ht.vn]
    exact this
end Go.Proofs.YtkgnbcbcgnlodaaGreatDoor

import Derived.Test.YtfaccnmiopcneaaGreatDoorR3Sb
import Derived.Test.YtfaccnmiopcneaaGreatDoorGcdAll
import Derived.Test.YtfaccnmiopcneaaGreatDoorWhAll
namespace Go.Proofs.YtfaccnmiopcneaaGreatDoor
open Go.RowKit

/-- A number that lies in none of four variables: those from block V on, and R. -/
def SN (w : World) (V R : Nat) (a : Option Addr) (n cap x S : Nat) : Prop := Num w a n cap (x : Int) S ∧ (n = 0 ∨ ∃ b o, a = some ⟨b, o, none⟩ ∧ b < w.heap.size ∧ (b < V ∨ (V + 3 ≤ b ∧ b ≠ R)))
theorem SN.below {w w' : World} {V R : Nat} {a : Option Addr} {n cap x S : Nat} (h : SN w V R a n cap x S) (hb : Below w.heap.size w w') : SN w' V R a n cap x S := by
  refine ⟨h.1.below hb, ?_⟩
  rcases h.2 with h0 | ⟨b, o, h1, h2, h3⟩
  · exact .inl h0
  · exact .inr ⟨b, o, h1, by have := hb.size; omega, h3⟩
theorem SN.off {w w' : World} {V R g : Nat} {a : Option Addr} {n cap x S : Nat} (h : SN w V R a n cap x S) (ho : Off g w w') (hg : g = V ∨ g = V + 1 ∨ g = V + 2 ∨ g = R) (hR : V + 3 ≤ R) : SN w' V R a n cap x S := by
  obtain ⟨⟨xs, e1, e2, e3, e4, e5, e6⟩, h2⟩ := h
  rcases h2 with h0 | ⟨b, o, h1, h2, h3⟩
  · have : xs = [] := List.eq_nil_of_length_eq_zero (by omega)
    exact ⟨⟨xs, e1, e2, .inl this, e4, e5, e6⟩, .inl h0⟩
  · refine ⟨⟨xs, e1, e2, ?_, e4, e5, e6⟩, .inr ⟨b, o, h1, by have := ho.size; omega, h3⟩⟩
    rcases e3 with e3 | ⟨b', o', e3, hc⟩
    · exact .inl e3
    · refine .inr ⟨b', o', e3, fun i hi => ?_⟩
      have eb : b' = b := by rw [e3] at h1; simp only [Option.some.injEq, Addr.mk.injEq] at h1; exact h1.1
      subst eb
      rw [ho.cell (p := ⟨b', o' + i, none⟩) (by show b' ≠ g; omega)]
      exact hc i hi
theorem SN.of_num {w : World} {R : Nat} {a : Option Addr} {n cap x S : Nat} (h : Num w a n cap (x : Int) S) : SN w w.heap.size R a n cap x S := by
  refine ⟨h, ?_⟩
  obtain ⟨xs, e1, e2, e3, e4, e5, e6⟩ := h
  rcases Nat.eq_zero_or_pos n with h0 | h0
  · exact .inl h0
  · rcases e3 with e3 | ⟨b, o, e3, hc⟩
    · subst e3; simp at e1; omega
    · have := World.block_lt_of_cell? _ _ (hc 0 (by omega))
      exact .inr ⟨b, o, e3, this, .inl this⟩
theorem SN.of_got {w : World} {V R B : Nat} {a : Option Addr} {n cap x S : Nat} (h : Got w B (.slice a n cap) (x : Int) S) (hB : V + 3 ≤ B) (hR : R < B ∨ w.heap.size ≤ R) : SN w V R a n cap x S := by
  refine ⟨h.num, ?_⟩
  have hl := h.lt
  obtain ⟨xs, h1, h2⟩ := h
  rcases h1.2 with ⟨e1, e2⟩ | ⟨g, c, cur, e1, _⟩
  · simp only [Value.slice.injEq] at e1; exact .inl e1.2.1
  · simp only [Value.slice.injEq] at e1
    obtain ⟨rfl, _, _⟩ := e1
    have := hl g rfl
    exact .inr ⟨g, 0, rfl, this.2, .inr ⟨by omega, by omega⟩⟩
theorem Num.wvalN {w : World} {a : Option Addr} {n cap x S : Nat} (h : Num w a n cap (x : Int) S) : wval w (.slice a n cap) = x := by
  obtain ⟨xs, e1, e2, e3, e4, e5, e6⟩ := h
  rcases e3 with e3 | ⟨b, o, rfl, hc⟩
  · subst e3
    have e0 : n = 0 := by simpa using e1
    have ex : x = 0 := by have : (0 : Int) = x := e5; omega
    subst e0 ex
    cases a <;> rfl
  · have e : ∀ k, k ≤ n → rdv w b o k = vS xs k := by
      intro k hk
      induction k with
      | zero => rfl
      | succ k ih =>
        show rdv w b o k + cellI w b (o + k) * pw k = vS _ k + lm _ k * pw k
        rw [ih (by omega)]
        congr 2
        unfold cellI
        rw [hc k (by omega)]
    show (rdv w b o n).toNat = x
    rw [e n (Nat.le_refl _), e1]
    have e7 : vS xs xs.length = (x : Int) := e5
    rw [e7]; simp
/-- The lower part of a fraction's variable. -/
def denV (w : World) (R : Nat) : Nat := match w.cell? ⟨R, 2, none⟩ with
  | some v => wval w v
  | none => 0
theorem Var3.denV {w : World} {R : Nat} {u v : Value} {a : Option Addr} {n cap x S : Nat} (h : Var3 w R u v (.slice a n cap)) (k : Num w a n cap (x : Int) S) : denV w R = x := by
  unfold Go.Proofs.YtfaccnmiopcneaaGreatDoor.denV
  rw [h.c2]
  exact k.wvalN
/-- What holds at the head of each round. -/
def LS (w wr : World) (R S A0 B0 C0 D0 : Nat) : Prop := ∃ (f1 f2 : Bool) (a1 : Option Addr) (n1 c1 : Nat) (a2 : Option Addr) (n2 c2 : Nat) (a3 : Option Addr) (n3 c3 : Nat) (a4 : Option Addr) (n4 c4 : Nat) (b1 : Option Addr) (m1 l1 : Nat) (b2 : Option Addr) (m2 l2 : Nat) (b3 : Option Addr) (m3 l3 : Nat) (b4 : Option Addr) (m4 l4 : Nat) (A B C D y1 y2 y3 y4 : Nat),
  Var3 wr w.heap.size (.bool f1) (.slice a1 n1 c1) (.slice a2 n2 c2) ∧ Var3 wr (w.heap.size + 1) (.bool f2) (.slice a3 n3 c3) (.slice a4 n4 c4) ∧ Var3 wr (w.heap.size + 2) (.bool false) (.slice none 0 0) (.slice none 0 0) ∧ Var4 wr R (.slice b1 m1 l1) (.slice b2 m2 l2) (.slice b3 m3 l3) (.slice b4 m4 l4) ∧
  SN wr w.heap.size R a1 n1 c1 A S ∧ SN wr w.heap.size R a2 n2 c2 B S ∧ SN wr w.heap.size R a3 n3 c3 C S ∧ SN wr w.heap.size R a4 n4 c4 D S ∧ SN wr w.heap.size R b1 m1 l1 y1 S ∧ SN wr w.heap.size R b2 m2 l2 y2 S ∧ SN wr w.heap.size R b3 m3 l3 y3 S ∧ SN wr w.heap.size R b4 m4 l4 y4 S ∧
  Ends A B C D ∧ (∀ p q, Simp A B C D p q → Simp A0 B0 C0 D0 (y1 * p + y3 * q) (y2 * p + y4 * q)) ∧ Below w.heap.size w wr
theorem Simp.small {A B C D p q S : Nat} (h : Simp A B C D p q) (hE : Ends A B C D) (hA : (A : Int) < pw S) (hB : (B : Int) < pw S) : (p : Int) < pw S ∧ (q : Int) < pw S := by
  have h1 := (h.good hE).2.2 A B hE.2.1 (Nat.le_refl _) hE.2.2.2
  omega
theorem sn_lt {w : World} {a : Option Addr} {n cap x S : Nat} (h : Num w a n cap (x : Int) S) : (x : Int) < pw S := by
  obtain ⟨xs, h1, h2, h3, h4, h5, h6⟩ := h
  have h7 := val_lt h4
  have h8 := pw_mono (show xs.length ≤ S by omega)
  omega
theorem cmpBel {a b : Option Addr} {na nb ca cb : Nat} {x y : Int} {S R : Nat} (w : World) (ha : Num w a na ca x S) (hb : Num w b nb cb y R) (hS : S ≤ 1000000000000) (hR : R ≤ 1000000000000) :
    Calls Tryz.prog 45 #[.slice a na ca, .slice b nb cb] w fun e w' => ∃ c : Int, e = .returned (.int .i64 c) ∧ ((c = 0 ∧ x = y) ∨ (c = -1 ∧ x < y) ∨ (c = 1 ∧ y < x)) ∧ Below w.heap.size w w' := by
  refine (cmpV w ha hb hS hR).mono ?_
  rintro e w' ⟨c, h1, h2, m, rfl⟩
  exact ⟨c, h1, h2, belN (Below.refl _ _) m⟩
theorem kS3 {w : World} {R g : Nat} {u v z : Value} {X : Option Obj} (h : w.heap[g]? = X) (hne : g ≠ R) : (((w.setCell ⟨R, 0, none⟩ u).setCell ⟨R, 1, none⟩ v).setCell ⟨R, 2, none⟩ z).heap[g]? = X :=
  ((((((Off.refl R w).set 0 u).set 1 v).set 2 z).block g hne).trans h)
end Go.Proofs.YtfaccnmiopcneaaGreatDoor

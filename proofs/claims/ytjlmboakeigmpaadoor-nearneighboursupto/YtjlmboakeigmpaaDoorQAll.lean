import Derived.Test.YtjlmboakeigmpaaDoorRatAll
import Derived.Test.YtjlmboakeigmpaaDoorRefNAll
import Derived.Test.YtjlmboakeigmpaaDoorR2All
import Derived.Test.YtjlmboakeigmpaaDoorLentAll
import Derived.Test.YtjlmboakeigmpaaDoorCsAll
namespace Go.Proofs.YtjlmboakeigmpaaDoor
open Go.RowKit

theorem Num.up {w : World} {a : Option Addr} {n c : Nat} {x : Int} {S R : Nat} (h : Num w a n c x S) (hR : S ≤ R) : Num w a n c x R := by
  obtain ⟨xs, h1, h2, h3, h4, h5, h6⟩ := h
  exact ⟨xs, h1, h2, h3, h4, h5, by omega⟩
theorem Num.below_pw {w : World} {a : Option Addr} {n c : Nat} {x : Int} {S : Nat} (h : Num w a n c x S) : x < pw S := by
  obtain ⟨xs, h1, h2, h3, h4, h5, h6⟩ := h
  have h7 := val_lt h4
  have h8 := pw_mono (show xs.length ≤ S by omega)
  rw [← h5]; omega
theorem TR.le {w : World} {p : Bool} {a : Option Addr} {na ca : Nat} {d : Option Addr} {nd cd : Nat} {r : Rat} {S R : Nat} (h : TR w p a na ca d nd cd r S) (hR : S ≤ R) : TR w p a na ca d nd cd r R := by
  obtain ⟨x, y, h1, h2, h3⟩ := h; exact ⟨x, y, h1.le hR, h2.up hR, h3⟩
theorem Got.tiny {w : World} {B : Nat} {a : Option Addr} {n c : Nat} {x : Int} {S : Nat} (h : Got w B (.slice a n c) x S) : n = 0 ↔ x = 0 := by
  have h1 := h.pos
  omega
theorem gr_zero {w : World} {B : Nat} {c : Option Addr} {n k S : Nat} (h : Got w B (.slice c n k) 1 1) (hS : 1 ≤ S) : GR w B false none 0 0 c n k 0 S := by
  refine ⟨((GI.nil w B).le (by omega)).val ?_, (h.le hS).val ?_⟩
  · rfl
  · rfl
theorem sg_of {x : Int} {G : Nat} {f : Bool} (hG : 0 < G) (hf : f = decide (x < 0)) (hx : x ≠ 0) (hd : G ∣ x.natAbs) : f = decide (ws f ((x.natAbs : Int) / (G : Int)) < 0) := by
  obtain ⟨q, hq⟩ := hd
  have hq0 : 0 < q := by
    rcases Nat.eq_zero_or_pos q with h | h
    · subst h; omega
    · exact h
  have e : (x.natAbs : Int) / (G : Int) = q := by rw [hq, Int.natCast_mul, Int.mul_ediv_cancel_left _ (by omega)]
  rw [e]
  unfold ws
  cases f <;> simp <;> omega
end Go.Proofs.YtjlmboakeigmpaaDoor

namespace Go.Proofs.YtjlmboakeigmpaaDoor
open Go.RowKit

theorem Got.offN {w w' : World} {B R : Nat} {v : Value} {x : Int} {S : Nat} (h : Got w B v x S) (ho : Off R w w') (hR : v.ownBlock ≠ some R) : Got w' B v x S := by
  obtain ⟨xs, h1, h2⟩ := h
  refine ⟨xs, ?_, h2⟩
  refine ⟨h1.1, ?_⟩
  rcases h1.2 with hn | ⟨g, cap, cur, e1, e2, hgb, rest⟩
  · exact .inl hn
  · refine .inr ⟨g, cap, cur, e1, e2, (ho.block g (fun e => hR ?_)).trans hgb, rest⟩
    subst e; rw [e1]; rfl
theorem Var3.set2 {w : World} {R : Nat} {u v z : Value} (h : Var3 w R u v z) (u' v' : Value) : Var3 ((w.setCell ⟨R, 0, none⟩ u').setCell ⟨R, 1, none⟩ v') R u' v' z ∧ Off R w ((w.setCell ⟨R, 0, none⟩ u').setCell ⟨R, 1, none⟩ v') := by
  refine ⟨⟨?_, ?_, ?_, ?_, ?_, ?_⟩, ((Off.refl _ _).set 0 u').set 1 v'⟩
  · rw [World.cell?_setCell_other _ _ _ _ (by simp), World.cell?_setCell_same _ _ _ h.c0]
  · rw [World.cell?_setCell_same _ _ _ ((World.cell?_setCell_other _ _ _ _ (by simp)).trans h.c1)]
  · rw [World.cell?_setCell_other _ _ _ _ (by simp), World.cell?_setCell_other _ _ _ _ (by simp)]; exact h.c2
  · rw [World.frozen?_setCell, World.frozen?_setCell]; exact h.f0
  · rw [World.frozen?_setCell, World.frozen?_setCell]; exact h.f1
  · rw [World.frozen?_setCell, World.frozen?_setCell]; exact h.f2
theorem Var3.set0 {w : World} {R : Nat} {u v z : Value} (h : Var3 w R u v z) (u' : Value) : Var3 (w.setCell ⟨R, 0, none⟩ u') R u' v z ∧ Off R w (w.setCell ⟨R, 0, none⟩ u') := by
  refine ⟨⟨?_, ?_, ?_, ?_, ?_, ?_⟩, (Off.refl _ _).set 0 u'⟩
  · rw [World.cell?_setCell_same _ _ _ h.c0]
  · rw [World.cell?_setCell_other _ _ _ _ (by simp)]; exact h.c1
  · rw [World.cell?_setCell_other _ _ _ _ (by simp)]; exact h.c2
  · rw [World.frozen?_setCell]; exact h.f0
  · rw [World.frozen?_setCell]; exact h.f1
  · rw [World.frozen?_setCell]; exact h.f2
theorem dd_lt {a b : Nat} {S R : Nat} (ha : (a : Int) < pw S) (hb : (b : Int) < pw R) : (a : Int) * (b : Int) < pw (S + R) := by
  have h := mul_lt (x := (a : Int)) (y := (b : Int)) (S := S) (R := R) (by simpa using ha) (by simpa using hb)
  rw [Int.natAbs_mul] at h
  simpa using h
theorem Got.below_pw {w : World} {B : Nat} {a : Option Addr} {n c : Nat} {x : Int} {S : Nat} (h : Got w B (.slice a n c) x S) : x < pw S := h.num.below_pw
theorem Got.ti {w : World} {B : Nat} {a : Option Addr} {n c : Nat} {x : Int} {S : Nat} (h : Got w B (.slice a n c) x S) : TI w false a n c x S := ⟨_, h.num, rfl⟩
theorem q_mul (r s : Rat) : Rat.divInt (r.num * s.num) ((r.den : Int) * (s.den : Int)) = r * s := by
  rw [← Rat.divInt_mul_divInt, Rat.num_divInt_den, Rat.num_divInt_den]
theorem q_add (r s : Rat) : Rat.divInt (r.num * s.den + s.num * r.den) ((r.den : Int) * (s.den : Int)) = r + s := by
  rw [← Rat.divInt_add_divInt _ _ (by have := r.den_pos; omega) (by have := s.den_pos; omega), Rat.num_divInt_den, Rat.num_divInt_den]
theorem abs_num (r : Rat) : (absR r).num = (r.num.natAbs : Int) := by
  unfold absR; split
  · rw [Rat.neg_num]; omega
  · omega
end Go.Proofs.YtjlmboakeigmpaaDoor

import Derived.Test.YtfaccnmiopcneaaGreatDoorR3Sd
import Derived.Test.YtfaccnmiopcneaaGreatDoorR3Cs
namespace Go.Proofs.YtfaccnmiopcneaaGreatDoor
open Go.RowKit

theorem div_le {x1 y1 x2 y2 : Int} {r s : Rat} (hy1 : 0 < y1) (hy2 : 0 < y2) (h1 : Rat.divInt x1 y1 = r) (h2 : Rat.divInt x2 y2 = s) : r ≤ s ↔ x1 * y2 ≤ x2 * y1 := by
  rw [← Rat.not_lt, ← cs_gt]
  unfold cs
  rw [← cmp_sign hy1 hy2 h1 h2, sign_pos_iff]
  omega
theorem div_pos {x y : Int} {r : Rat} (hy : 0 < y) (h : Rat.divInt x y = r) : 0 < r ↔ 0 < x := by
  rw [← Rat.not_le, div_le hy (y2 := 1) (x2 := 0) (by decide) h (by rw [Rat.zero_divInt])]
  omega
/-- s lies between the two, and nothing there is told by less. -/
def Best (lo hi s : Rat) : Prop := lo ≤ s ∧ s ≤ hi ∧ ∀ c, lo ≤ c → c ≤ hi → s.den ≤ c.den ∧ s.num.natAbs ≤ c.num.natAbs
theorem Best.neg {lo hi s : Rat} (h : Best (-hi) (-lo) s) : Best lo hi (-s) := by
  refine ⟨?_, ?_, fun c h1 h2 => ?_⟩
  · have := Rat.neg_le_neg h.2.1; rwa [Rat.neg_neg] at this
  · have := Rat.neg_le_neg h.1; rwa [Rat.neg_neg] at this
  · have := h.2.2 (-c) (Rat.neg_le_neg h2) (Rat.neg_le_neg h1)
    rw [Rat.neg_num, Rat.neg_den] at this ⊢
    omega
theorem Best.zero {lo hi : Rat} (h1 : lo ≤ 0) (h2 : 0 ≤ hi) : Best lo hi 0 := by
  refine ⟨h1, h2, fun c _ _ => ⟨?_, ?_⟩⟩
  · exact c.den_pos
  · exact Nat.zero_le _
theorem low_pq {p q : Nat} (hq : 0 < q) (hg : Nat.gcd p q = 1) : (Rat.divInt (p : Int) (q : Int)).num = p ∧ (Rat.divInt (p : Int) (q : Int)).den = q := by
  have e : Int.gcd (q : Int) (p : Int) = 1 := by
    show Nat.gcd (q : Int).natAbs (p : Int).natAbs = 1
    simp only [Int.natAbs_natCast]
    rw [Nat.gcd_comm]; exact hg
  rw [Rat.num_divInt, Rat.den_divInt, e, if_neg (by omega), Int.sign_eq_one_of_pos (by omega)]
  simp
theorem Simp.best {A B C D p q : Nat} {lo hi : Rat} (h : Simp A B C D p q) (hE : Ends A B C D) (h1 : Rat.divInt (A : Int) (B : Int) = lo) (h2 : Rat.divInt (C : Int) (D : Int) = hi) : Best lo hi (Rat.divInt (p : Int) (q : Int)) := by
  obtain ⟨⟨hp, hq, hg⟩, ⟨h3, h4⟩, h5⟩ := h.good hE
  have hB := hE.2.1
  have hD := hE.2.2.1
  obtain ⟨e1, e2⟩ := low_pq hq hg
  refine ⟨?_, ?_, fun c hc1 hc2 => ?_⟩
  · rw [div_le (by omega) (by omega) h1 rfl]; exact_mod_cast h3
  · rw [div_le (by omega) (by omega) rfl h2]; exact_mod_cast h4
  · have hcd := c.den_pos
    have hc0 : 0 < c.num := by
      rw [num_pos_iff]
      have h6 : 0 < lo := (div_pos (by omega) h1).2 (by have := hE.1; omega)
      rcases Decidable.em (0 < c) with h7 | h7
      · exact h7
      · exact absurd (Rat.le_trans hc1 (Rat.not_lt.1 h7)) (Rat.not_le.2 h6)
    obtain ⟨x, hx⟩ := Int.eq_ofNat_of_zero_le (Int.le_of_lt hc0)
    rw [div_le (by omega) (show (0 : Int) < (c.den : Int) by omega) h1 (Rat.num_divInt_den c), hx] at hc1
    rw [div_le (show (0 : Int) < (c.den : Int) by omega) (by omega) (Rat.num_divInt_den c) h2, hx] at hc2
    have h8 := h5 x c.den hcd (by exact_mod_cast hc1) (by exact_mod_cast hc2)
    rw [e1, e2, hx]
    simp only [Int.natAbs_natCast]
    omega
theorem TR.nat {w : World} {p : Bool} {a : Option Addr} {na ca : Nat} {d : Option Addr} {nd cd : Nat} {r : Rat} {S : Nat} (h : TR w p a na ca d nd cd r S) (hr : 0 < r) : ∃ A B : Nat, Num w a na ca (A : Int) S ∧ Num w d nd cd (B : Int) S ∧ 0 < A ∧ 0 < B ∧ Rat.divInt (A : Int) (B : Int) = r := by
  obtain ⟨x, y, ⟨m, h1, h2⟩, h3, h4⟩ := h
  have hm := h1.nn
  have hy := h3.nn
  have hy0 : 0 < y := by
    rcases (by omega : y = 0 ∨ 0 < y) with e | e
    · subst e; rw [Rat.divInt_zero] at h4; rw [← h4] at hr; exact absurd hr Rat.lt_irrefl
    · exact e
  have hx := (div_pos hy0 h4).1 hr
  have hxm : x = m := by
    unfold ws at h2
    cases p <;> simp at h2 <;> omega
  subst hxm
  obtain ⟨A, rfl⟩ := Int.eq_ofNat_of_zero_le hm
  obtain ⟨B, rfl⟩ := Int.eq_ofNat_of_zero_le hy
  exact ⟨A, B, h1, h3, by omega, by omega, h4⟩
/-- rat.simplestAbove, of fractions. -/
theorem aboveR {p q : Bool} {a b : Option Addr} {na nb ca cb : Nat} {d e0 : Option Addr} {nd ne cd ce : Nat} {r s : Rat} {S : Nat} (w : World) (hr : TR w p a na ca d nd cd r S) (hs : TR w q b nb cb e0 ne ce s S) (hr0 : 0 < r) (hrs : r ≤ s) (hS : S ≤ 3000000) (hS1 : 1 ≤ S) :
    Calls Tryz.prog 15 #[.agg #[.bool p, .slice a na ca, .slice d nd cd], .agg #[.bool q, .slice b nb cb, .slice e0 ne ce]] w fun e w' => ∃ f c n k c' n' k' z, e = .returned (.agg #[.bool f, .slice c n k, .slice c' n' k']) ∧ GR w' w.heap.size f c n k c' n' k' z S ∧ Best r s z ∧ Below w.heap.size w w' := by
  have hs0 : 0 < s := by
    rcases Decidable.em (0 < s) with h | h
    · exact h
    · exact absurd (Rat.le_trans hrs (Rat.not_lt.1 h)) (Rat.not_le.2 hr0)
  obtain ⟨A, B, h1, h2, hA, hB, e1⟩ := hr.nat hr0
  obtain ⟨C, D, h3, h4, hC, hD, e2⟩ := hs.nat hs0
  have hE : Ends A B C D := ⟨hA, hB, hD, by
    rw [div_le (by omega) (by omega) e1 e2] at hrs
    exact_mod_cast hrs⟩
  refine (aboveQ w h1 h2 h3 h4 hE hS hS1).mono ?_
  rintro e w' ⟨c, n, k, c', n', k', pp, qq, rfl, G1, G2, hsimp, hb⟩
  obtain ⟨⟨hp, hq, hg⟩, _⟩ := hsimp.good hE
  obtain ⟨l1, l2⟩ := low_pq hq hg
  refine ⟨_, _, _, _, _, _, _, Rat.divInt (pp : Int) (qq : Int), rfl, ⟨⟨c, n, k, ?_, ?_⟩, ?_⟩, hsimp.best hE e1 e2, hb⟩
  · rw [l1, decide_eq_false (by omega)]
  · rw [l1]; exact G1
  · rw [l2]; exact G2
end Go.Proofs.YtfaccnmiopcneaaGreatDoor

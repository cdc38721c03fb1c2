import Derived.Test.YtjlmboakeigmpaaGreatDoorAwake
import Derived.Test.YtjlmboakeigmpaaGreatDoorGcdAll
import Derived.Test.YtjlmboakeigmpaaGreatDoorLike
import Derived.Test.YtjlmboakeigmpaaGreatDoorPow
import Derived.Test.YtjlmboakeigmpaaGreatDoorWhAll
namespace Go.Proofs.YtjlmboakeigmpaaGreatDoor
open Go.RowKit

theorem Mine.num {w : World} {B : Nat} {a : Option Addr} {n cap x S : Nat} (h : Mine w B a n cap x S) : Num w a n cap x S := h.1.num
theorem bitsP {a : Option Addr} {na ca : Nat} {x : Int} {S : Nat} (w : World) (ha : Num w a na ca x S) (hS : S ≤ 100000000) (hx : 0 < x) :
    Calls Tryz.prog 76 #[.slice a na ca] w fun e w' => ∃ n : Int, e = .returned (.int .i64 n) ∧ 0 < n ∧ w = w' := by
  obtain ⟨xs, a1, a2, a3, a4, a5, a6⟩ := ha
  have h1 := val_bits a4
  have h2 := (bits_nn xs a4 (by omega)).1
  have h3 : 0 < bitsL xs := by
    rcases (by omega : bitsL xs = 0 ∨ 0 < bitsL xs) with h | h
    · rw [h] at h1; simp at h1; omega
    · exact h
  refine (bits_any a na ca xs w a1 a2 (by omega) a3 a4).mono ?_
  rintro e w' ⟨rfl, rfl⟩
  exact ⟨_, rfl, h3, rfl⟩
theorem below_alloc (w : World) (o : Obj) : Below w.heap.size w (w.alloc o) := (Below.refl _ _).alloc (Nat.le_refl _) _
theorem tab_up {w w' : World} {g : Nat} {tab : List Nat} (h : TabAt g tab w) (hg : g < w.heap.size) (hb : Below w.heap.size w w') : TabAt g tab w' := tab_below h hb hg
theorem gcd2_any {a b : Option Addr} {na nb ca cb : Nat} {x y R : Nat} (w : World) (ha : Num w a na ca x R) (hb : Num w b nb cb y R) (hR : R ≤ 8000000) (hT : TabAt 8 Lib.deBruijn64tab w) (hgt : 8 < w.heap.size) :
    Calls Tryz.prog 80 #[.slice (some ⟨w.heap.size, 0, none⟩) 2 2] (w.alloc (.cells #[Value.slice a na ca, .slice b nb cb] 37)) fun e w' => ∃ c n cc, e = .returned (.slice c n cc) ∧ Num w' c n cc (Nat.gcd x y : Nat) (R + 2) ∧ Below w.heap.size w w' := by
  have hbA := below_alloc w (.cells #[Value.slice a na ca, .slice b nb cb] 37)
  refine (gcdL_any w.heap.size 2 2 (fun j => if j = 0 then a else b) (fun j => if j = 0 then na else nb) (fun j => if j = 0 then ca else cb) (fun j => if j = 0 then x else y) R _ ?_ ?_ (by omega) hR (tab_up hT hgt hbA) (by have := hbA.size; omega)).mono ?_
  · intro j hj
    rcases (by omega : j = 0 ∨ j = 1) with h | h <;> subst h <;> simp
  · intro j hj
    rcases (by omega : j = 0 ∨ j = 1) with h | h <;> subst h
    · exact ha.below hbA
    · exact hb.below hbA
  · rintro e w' ⟨c, n, cc, rfl, hM, hb'⟩
    refine ⟨c, n, cc, rfl, ?_, hbA.trans (hb'.mono hbA.size)⟩
    have e : gcdN (fun j => if j = 0 then x else y) 2 = Nat.gcd x y := by simp [gcdN]
    rw [e] at hM
    exact hM.num
theorem gcd3_any {a b d : Option Addr} {na nb nd ca cb cd : Nat} {x y z R : Nat} (w : World) (ha : Num w a na ca x R) (hb : Num w b nb cb y R) (hd : Num w d nd cd z R) (hR : R ≤ 8000000) (hT : TabAt 8 Lib.deBruijn64tab w) (hgt : 8 < w.heap.size) :
    Calls Tryz.prog 80 #[.slice (some ⟨w.heap.size, 0, none⟩) 3 3] (w.alloc (.cells #[Value.slice a na ca, .slice b nb cb, .slice d nd cd] 37)) fun e w' => ∃ c n cc, e = .returned (.slice c n cc) ∧ Num w' c n cc (Nat.gcd (Nat.gcd x y) z : Nat) (R + 2) ∧ Below w.heap.size w w' := by
  have hbA := below_alloc w (.cells #[Value.slice a na ca, .slice b nb cb, .slice d nd cd] 37)
  refine (gcdL_any w.heap.size 3 3 (fun j => if j = 0 then a else if j = 1 then b else d) (fun j => if j = 0 then na else if j = 1 then nb else nd) (fun j => if j = 0 then ca else if j = 1 then cb else cd) (fun j => if j = 0 then x else if j = 1 then y else z) R _ ?_ ?_ (by omega) hR (tab_up hT hgt hbA) (by have := hbA.size; omega)).mono ?_
  · intro j hj
    rcases (by omega : j = 0 ∨ j = 1 ∨ j = 2) with h | h | h <;> subst h <;> simp
  · intro j hj
    rcases (by omega : j = 0 ∨ j = 1 ∨ j = 2) with h | h | h <;> subst h
    · exact ha.below hbA
    · exact hb.below hbA
    · exact hd.below hbA
  · rintro e w' ⟨c, n, cc, rfl, hM, hb'⟩
    refine ⟨c, n, cc, rfl, ?_, hbA.trans (hb'.mono hbA.size)⟩
    have e : gcdN (fun j => if j = 0 then x else if j = 1 then y else z) 3 = Nat.gcd (Nat.gcd x y) z := by simp [gcdN]
    rw [e] at hM
    exact hM.num
theorem Num.more {w : World} {a : Option Addr} {n cap : Nat} {x : Int} {S R : Nat} (h : Num w a n cap x S) (hS : S ≤ R) : Num w a n cap x R := by
  obtain ⟨xs, h1, h2, h3, h4, h5, h6⟩ := h
  exact ⟨xs, h1, h2, h3, h4, h5, by omega⟩
theorem gcd_cop {x y : Nat} (h : 0 < Nat.gcd x y) : Nat.gcd (x / Nat.gcd x y) (y / Nat.gcd x y) = 1 := by
  have h1 := Nat.gcd_div (Nat.gcd_dvd_left x y) (Nat.gcd_dvd_right x y)
  rw [h1, Nat.div_self h]

/-- The table, and where it lies. -/
def Tabs (w : World) : Prop := TabAt 8 Lib.deBruijn64tab w ∧ 8 < w.heap.size
theorem Tabs.mk {w : World} (h : TabAt 8 Lib.deBruijn64tab w) (hg : 8 < w.heap.size) : Tabs w := ⟨h, hg⟩
theorem Tabs.below {w w' : World} (h : Tabs w) (hb : Below w.heap.size w w') : Tabs w' := ⟨tab_up h.1 h.2 hb, Nat.lt_of_lt_of_le h.2 hb.size⟩

end Go.Proofs.YtjlmboakeigmpaaGreatDoor

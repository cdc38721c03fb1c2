import Derived.Test.YtkgnbcbcgnlodaaGreatDoorDuC
import Derived.Test.YtkgnbcbcgnlodaaGreatDoorPvF0
namespace Go.Proofs.YtkgnbcbcgnlodaaGreatDoor
open Go.RowKit

/-- One number is no better than another one, in a dual's sense. -/
def dle (mx : Bool) (a b : Rat) : Prop := if mx then a ≤ b else b ≤ a
theorem dsg_zero (s : Bool) : dsg s 0 = 0 := by cases s; rfl; show -(0 : Rat) = 0; exact Rat.neg_zero
theorem dsg_add (s : Bool) (a b : Rat) : dsg s (a + b) = dsg s a + dsg s b := by
  cases s
  · rfl
  · show -(a + b) = -a + -b; rw [Rat.neg_add]
theorem dsg_sz {s : Bool} {r : Rat} {S : Nat} (h : SzR r S) : SzR (dsg s r) S := by
  cases s
  · exact h
  · show SzR (-r) S
    exact ⟨by rw [Rat.neg_num]; simpa using h.1, by rw [Rat.neg_den]; exact h.2⟩
theorem gsum_push (r : DR) (y : PT) (z : Nat) (x : Int) : gsum (r.push y z).t (r.push y z).m x = gsum r.t r.m x + (if y.var = x then y.coef else 0) := by
  show rsum (fun i => if ((if i < r.m then r.t i else y) : PT).var = x then ((if i < r.m then r.t i else y) : PT).coef else 0) (r.m + 1) = _
  rw [rsum_succ]
  simp only [Nat.lt_irrefl, if_false]
  congr 1
  exact rsum_congr fun i hi => by simp only [hi, if_true]
theorem tot_push (r : DR) (y : PT) (z : Nat) : tot (r.push y z).Z (r.push y z).m = tot r.Z r.m + z + 1 := by
  show tot (fun i => if i < r.m then r.Z i else z) r.m + (if r.m < r.m then r.Z r.m else z) + 1 = _
  rw [if_neg (Nat.lt_irrefl _), tot_congr (Y := r.Z) fun i hi => by simp only [hi, if_true]]
theorem gsum_succ (t : Nat → PT) (q : Nat) (x : Int) : gsum t (q + 1) x = gsum t q x + (if (t q).var = x then (t q).coef else 0) := rfl
theorem pushs_gsum (R : Nat → DR) (n : Nat) (s : Bool) (t : Nat → PT) (Z : Nat → Nat) (j : Nat) (x : Int) : ∀ q, (∀ i, i < q → 0 ≤ (t i).var) → gsum (pushs R n s t Z q j).t (pushs R n s t Z q j).m x = gsum (R j).t (R j).m x + (if (n : Int) = x then dsg s (gsum t q (j : Int)) else 0)
  | 0, _ => by
    have : gsum t 0 (j : Int) = 0 := rfl
    rw [this, dsg_zero]
    show gsum (R j).t (R j).m x = gsum (R j).t (R j).m x + _
    split <;> rw [Rat.add_zero]
  | q + 1, hv => by
    have ih := pushs_gsum R n s t Z j x q (fun i hi => hv i (by omega))
    have h0 := hv q (by omega)
    rw [gsum_succ]
    by_cases hj : j = (t q).var.toNat
    · have e : pushs R n s t Z (q + 1) j = (pushs R n s t Z q j).push ⟨(n : Int), dsg s (t q).coef⟩ (Z q) := if_pos hj
      rw [e, gsum_push, ih, if_pos (show (t q).var = (j : Int) by omega), dsg_add]
      dsimp only
      split
      · rw [Rat.add_assoc]
      · rw [Rat.add_zero]
    · have e : pushs R n s t Z (q + 1) j = pushs R n s t Z q j := if_neg hj
      rw [e, ih, if_neg (show ¬ (t q).var = (j : Int) by omega), Rat.add_zero]
theorem pushs_tot (R : Nat → DR) (n : Nat) (s : Bool) (t : Nat → PT) (Z : Nat → Nat) (j : Nat) : ∀ q, (∀ i, i < q → 0 ≤ (t i).var) → tot (pushs R n s t Z q j).Z (pushs R n s t Z q j).m = tot (R j).Z (R j).m + zs t Z (j : Int) q
  | 0, _ => rfl
  | q + 1, hv => by
    have ih := pushs_tot R n s t Z j q (fun i hi => hv i (by omega))
    have h0 := hv q (by omega)
    show _ = tot (R j).Z (R j).m + (zs t Z (j : Int) q + if (t q).var = (j : Int) then Z q + 1 else 0)
    by_cases hj : j = (t q).var.toNat
    · have e : pushs R n s t Z (q + 1) j = (pushs R n s t Z q j).push ⟨(n : Int), dsg s (t q).coef⟩ (Z q) := if_pos hj
      rw [e, tot_push, ih, if_pos (show (t q).var = (j : Int) by omega)]
      omega
    · have e : pushs R n s t Z (q + 1) j = pushs R n s t Z q j := if_neg hj
      rw [e, ih, if_neg (show ¬ (t q).var = (j : Int) by omega)]
      omega
theorem pushs_same (R : Nat → DR) (n : Nat) (s : Bool) (t : Nat → PT) (Z : Nat → Nat) (j : Nat) : ∀ q, (pushs R n s t Z q j).nm = (R j).nm ∧ (pushs R n s t Z q j).c = (R j).c
  | 0 => ⟨rfl, rfl⟩
  | q + 1 => by
    have ih := pushs_same R n s t Z j q
    show (if j = (t q).var.toNat then (pushs R n s t Z q j).push ⟨(n : Int), dsg s (t q).coef⟩ (Z q) else pushs R n s t Z q j).nm = _ ∧ (if j = (t q).var.toNat then (pushs R n s t Z q j).push ⟨(n : Int), dsg s (t q).coef⟩ (Z q) else pushs R n s t Z q j).c = _
    split
    · exact ih
    · exact ih
/-- What holds of each term of a row, holds with more of them. -/
theorem pushs_all (A : PT → Nat → Prop) (R : Nat → DR) (n : Nat) (s : Bool) (t : Nat → PT) (Z : Nat → Nat) (j : Nat) (h : ∀ i, i < (R j).m → A ((R j).t i) ((R j).Z i)) : ∀ q, (∀ i, i < q → A ⟨(n : Int), dsg s (t i).coef⟩ (Z i)) → ∀ i, i < (pushs R n s t Z q j).m → A ((pushs R n s t Z q j).t i) ((pushs R n s t Z q j).Z i)
  | 0, _ => h
  | q + 1, hq => by
    have ih := pushs_all A R n s t Z j h q (fun i hi => hq i (by omega))
    by_cases hj : j = (t q).var.toNat
    · have e : pushs R n s t Z (q + 1) j = (pushs R n s t Z q j).push ⟨(n : Int), dsg s (t q).coef⟩ (Z q) := if_pos hj
      rw [e]
      intro i hi
      show A (if i < (pushs R n s t Z q j).m then (pushs R n s t Z q j).t i else ⟨(n : Int), dsg s (t q).coef⟩) (if i < (pushs R n s t Z q j).m then (pushs R n s t Z q j).Z i else Z q)
      by_cases h1 : i < (pushs R n s t Z q j).m
      · rw [if_pos h1, if_pos h1]; exact ih i h1
      · rw [if_neg h1, if_neg h1]; exact hq q (by omega)
    · have e : pushs R n s t Z (q + 1) j = pushs R n s t Z q j := if_neg hj
      rw [e]
      exact ih
/-- What a dual says so far of the points of the other problem, and how much it takes. -/
structure DG (P : Prob) (mx : Bool) (x : DS) (KV : Nat) (KR : Nat → Nat) : Prop where
  up : ∀ n X, Hlds P n X → ∀ i, i < x.vn → dle mx (x.V i).obj (rsum (fun j => gsum (x.R j).t (x.R j).m (i : Int) * X j) P.vn)
  no : ∀ j, j < P.vn → ∀ i : Nat, x.vn ≤ i → gsum (x.R j).t (x.R j).m (i : Int) = 0
  vr : ∀ j, j < P.vn → ∀ q, q < (x.R j).m → (0 ≤ ((x.R j).t q).var ∧ ((x.R j).t q).var < (x.vn : Int)) ∧ 1 ≤ (x.R j).Z q
  vz : ∀ i, i < x.vn → (x.V i).nm.size ≤ 60 ∧ (1 ≤ (x.V i).Z ∧ (x.V i).Z ≤ 1048576) ∧ SzR (x.V i).obj (x.V i).Z
  vt : tot (fun i => (x.V i).Z) x.vn ≤ KV
  rz : ∀ j, j < P.vn → tot (x.R j).Z (x.R j).m ≤ KR j
  rc : ∀ j, j < P.vn → (x.R j).c = (P.V j).obj ∧ (x.R j).nm.size ≤ 60
theorem DG.mono {P : Prob} {mx : Bool} {x : DS} {KV KV' : Nat} {KR KR' : Nat → Nat} (h : DG P mx x KV KR) (h1 : KV ≤ KV') (h2 : ∀ j, j < P.vn → KR j ≤ KR' j) : DG P mx x KV' KR' :=
  ⟨h.up, h.no, h.vr, h.vz, Nat.le_trans h.vt h1, fun j hj => Nat.le_trans (h.rz j hj) (h2 j hj), h.rc⟩
theorem DG.add {P : Prob} {mx : Bool} {x : DS} {KV : Nat} {KR : Nat → Nat} (h : DG P mx x KV KR) {nm : ByteArray} {s : Bool} {r : Rat} {Sr : Nat} {t : Nat → PT} {Z : Nat → Nat} {nt : Nat} (hnm : nm.size ≤ 60) (hr : SzR r Sr) (hS : 1 ≤ Sr ∧ Sr ≤ 1048576) (hv : ∀ q, q < nt → 0 ≤ (t q).var) (hZ : ∀ q, q < nt → 1 ≤ Z q)
    (he : ∀ n X, Hlds P n X → dle mx (dsg s r) (rsum (fun j => dsg s (gsum t nt (j : Int)) * X j) P.vn)) : DG P mx (x.add nm s r Sr t Z nt) (KV + Sr + 1) (fun j => KR j + zs t Z (j : Int) nt) := by
  refine ⟨fun n X hX i hi => ?_, fun j hj i hi => ?_, fun j hj q hq => ?_, fun i hi => ?_, ?_, fun j hj => ?_, fun j hj => ?_⟩
  · show dle mx (if i < x.vn then x.V i else ⟨nm, dsg s r, Sr⟩ : DV).obj (rsum (fun j => gsum (pushs x.R x.vn s t Z nt j).t (pushs x.R x.vn s t Z nt j).m (i : Int) * X j) P.vn)
    have hi' : i < x.vn + 1 := hi
    by_cases e : i < x.vn
    · rw [if_pos e, rsum_congr (Y := fun j => gsum (x.R j).t (x.R j).m (i : Int) * X j) fun j hj => by rw [pushs_gsum _ _ _ _ _ _ _ _ hv, if_neg (by omega), Rat.add_zero]]
      exact h.up n X hX i e
    · rw [if_neg e, rsum_congr (Y := fun j => dsg s (gsum t nt (j : Int)) * X j) fun j hj => by rw [pushs_gsum _ _ _ _ _ _ _ _ hv, if_pos (by omega), h.no j hj i (by omega), Rat.zero_add]]
      exact he n X hX
  · have hi' : x.vn + 1 ≤ i := hi
    show gsum (pushs x.R x.vn s t Z nt j).t (pushs x.R x.vn s t Z nt j).m (i : Int) = 0
    rw [pushs_gsum _ _ _ _ _ _ _ _ hv, if_neg (by omega), Rat.add_zero]
    exact h.no j hj i (by omega)
  · exact pushs_all (fun y z => (0 ≤ y.var ∧ y.var < ((x.vn + 1 : Nat) : Int)) ∧ 1 ≤ z) x.R x.vn s t Z j (fun i hi => by have := h.vr j hj i hi; exact ⟨⟨this.1.1, by have := this.1.2; omega⟩, this.2⟩) nt (fun i hi => ⟨⟨by dsimp only; omega, by dsimp only; omega⟩, hZ i hi⟩) q hq
  · have hi' : i < x.vn + 1 := hi
    show (if i < x.vn then x.V i else ⟨nm, dsg s r, Sr⟩ : DV).nm.size ≤ 60 ∧ (1 ≤ (if i < x.vn then x.V i else ⟨nm, dsg s r, Sr⟩ : DV).Z ∧ (if i < x.vn then x.V i else ⟨nm, dsg s r, Sr⟩ : DV).Z ≤ 1048576) ∧ SzR (if i < x.vn then x.V i else ⟨nm, dsg s r, Sr⟩ : DV).obj (if i < x.vn then x.V i else ⟨nm, dsg s r, Sr⟩ : DV).Z
    by_cases e : i < x.vn
    · rw [if_pos e]; exact h.vz i e
    · rw [if_neg e]; exact ⟨hnm, hS, dsg_sz hr⟩
  · show tot (fun i => (if i < x.vn then x.V i else ⟨nm, dsg s r, Sr⟩ : DV).Z) x.vn + (if x.vn < x.vn then x.V x.vn else ⟨nm, dsg s r, Sr⟩ : DV).Z + 1 ≤ _
    rw [if_neg (Nat.lt_irrefl _), tot_congr (Y := fun i => (x.V i).Z) fun i hi => by simp only [hi, if_true]]
    have := h.vt
    dsimp only
    omega
  · show tot (pushs x.R x.vn s t Z nt j).Z (pushs x.R x.vn s t Z nt j).m ≤ KR j + zs t Z (j : Int) nt
    rw [pushs_tot _ _ _ _ _ _ _ hv]
    have := h.rz j hj
    omega
  · obtain ⟨e1, e2⟩ := pushs_same x.R x.vn s t Z j nt
    show (pushs x.R x.vn s t Z nt j).c = _ ∧ (pushs x.R x.vn s t Z nt j).nm.size ≤ 60
    rw [e1, e2]
    exact h.rc j hj
theorem DG.opt {P : Prob} {mx : Bool} {x : DS} {KV : Nat} {KR : Nat → Nat} (h : DG P mx x KV KR) (b : Bool) {nm : ByteArray} {s : Bool} {r : Rat} {Sr : Nat} {t : Nat → PT} {Z : Nat → Nat} {nt : Nat} (hnm : nm.size ≤ 60) (hr : SzR r Sr) (hS : 1 ≤ Sr ∧ Sr ≤ 1048576) (hv : ∀ q, q < nt → 0 ≤ (t q).var) (hZ : ∀ q, q < nt → 1 ≤ Z q)
    (he : b = true → ∀ n X, Hlds P n X → dle mx (dsg s r) (rsum (fun j => dsg s (gsum t nt (j : Int)) * X j) P.vn)) : DG P mx (x.opt b nm s r Sr t Z nt) (KV + Sr + 1) (fun j => KR j + zs t Z (j : Int) nt) := by
  cases b
  · exact h.mono (by omega) (fun j hj => by omega)
  · exact h.add hnm hr hS hv hZ (he rfl)
theorem rsum_dsg (s : Bool) (t : Nat → PT) (nt : Nat) (X : Nat → Rat) (m : Nat) : rsum (fun j => dsg s (gsum t nt (j : Int)) * X j) m = dsg s (rsum (fun j => gsum t nt (j : Int) * X j) m) := by
  cases s
  · rfl
  · show rsum (fun j => -(gsum t nt (j : Int)) * X j) m = -(rsum (fun j => gsum t nt (j : Int) * X j) m)
    rw [← rsum_neg]
    exact rsum_congr fun j _ => by rw [Rat.neg_mul]
/-- Both bounds of a row that holds. -/
theorem DG.bnd {P : Prob} {mx : Bool} {x : DS} {KV : Nat} {KR : Nat → Nat} (h : DG P mx x KV KR) {nP nM : ByteArray} {hl hh : Bool} {lo hi : Rat} {Sr : Nat} {t : Nat → PT} {Z : Nat → Nat} {nt : Nat} (hP : nP.size ≤ 60) (hM : nM.size ≤ 60) (hlo : SzR lo Sr) (hhi : SzR hi Sr) (hS : 1 ≤ Sr ∧ Sr ≤ 1048576) (hv : ∀ q, q < nt → 0 ≤ (t q).var) (hZ : ∀ q, q < nt → 1 ≤ Z q)
    (he : ∀ n X, Hlds P n X → wthn (rsum (fun j => gsum t nt (j : Int) * X j) P.vn) hl lo hh hi = true) : DG P mx (x.bnd mx nP nM hl lo hh hi Sr t Z nt) (KV + 2 * (Sr + 1)) (fun j => KR j + 2 * zs t Z (j : Int) nt) := by
  have key : ∀ (b1 b2 : Bool) (r1 r2 : Rat), SzR r1 Sr → SzR r2 Sr → (b1 = true → ∀ n X, Hlds P n X → dle mx r1 (rsum (fun j => gsum t nt (j : Int) * X j) P.vn)) → (b2 = true → ∀ n X, Hlds P n X → dle mx (-r2) (-(rsum (fun j => gsum t nt (j : Int) * X j) P.vn))) → DG P mx ((x.opt b1 nP false r1 Sr t Z nt).opt b2 nM true r2 Sr t Z nt) (KV + 2 * (Sr + 1)) (fun j => KR j + 2 * zs t Z (j : Int) nt) := fun b1 b2 r1 r2 s1 s2 e1 e2 => by
    have g1 := h.opt b1 (nm := nP) (s := false) (r := r1) (Z := Z) hP s1 hS hv hZ (fun hb n X hX => by rw [rsum_dsg]; exact e1 hb n X hX)
    have g2 := g1.opt b2 (nm := nM) (s := true) (r := r2) (Z := Z) hM s2 hS hv hZ (fun hb n X hX => by rw [rsum_dsg]; exact e2 hb n X hX)
    exact g2.mono (by omega) (fun j _ => by omega)
  unfold DS.bnd
  cases mx
  · rw [if_neg (by decide)]
    refine key hh hl hi lo hhi hlo (fun hb n X hX => ?_) (fun hb n X hX => ?_)
    · show _ ≤ hi
      exact (wthn_iff.1 (he n X hX)).2 hb
    · show -_ ≤ -lo
      exact Rat.neg_le_neg ((wthn_iff.1 (he n X hX)).1 hb)
  · rw [if_pos rfl]
    refine key hl hh lo hi hlo hhi (fun hb n X hX => ?_) (fun hb n X hX => ?_)
    · show lo ≤ _
      exact (wthn_iff.1 (he n X hX)).1 hb
    · show -hi ≤ -_
      exact Rat.neg_le_neg ((wthn_iff.1 (he n X hX)).2 hb)
/-- A variable by itself. -/
def vt1 (j : Nat) (_ : Nat) : PT := ⟨(j : Int), 1⟩
theorem vt1_sum (j : Nat) (X : Nat → Rat) (m : Nat) (hj : j < m) : rsum (fun x => gsum (vt1 j) 1 (x : Int) * X x) m = X j := by
  have e : ∀ x : Nat, gsum (vt1 j) 1 (x : Int) * X x = (if (j : Int) = (x : Int) then (1 : Rat) else 0) * X x := fun x => by
    show (0 + if (j : Int) = (x : Int) then (1 : Rat) else 0) * X x = _
    rw [Rat.zero_add]
  rw [rsum_congr fun x _ => e x, rsum_one, if_pos (by omega), Rat.one_mul]
  rfl
theorem vt1_zs (j : Nat) (x : Nat) : zs (vt1 j) (fun _ => 1) (x : Int) 1 = if j = x then 2 else 0 := by
  show 0 + (if (j : Int) = (x : Int) then 1 + 1 else 0) = _
  by_cases h : j = x
  · rw [if_pos h, if_pos (by omega)]
  · rw [if_neg h, if_neg (by omega)]
/-- WEAK DUALITY, of what the dual says. -/
theorem DG.weak {P : Prob} {mx : Bool} {x : DS} {KV : Nat} {KR : Nat → Nat} (h : DG P mx x KV KR) {n : Nat} {X Y : Nat → Rat} (hX : Hlds P n X) (hY : ∀ i, i < x.vn → 0 ≤ Y i) (hR : ∀ j, j < P.vn → rsum (fun i => gsum (x.R j).t (x.R j).m (i : Int) * Y i) x.vn = (P.V j).obj) :
    dle mx (rsum (fun i => (x.V i).obj * Y i) x.vn) (rsum (fun j => (P.V j).obj * X j) P.vn) := by
  have e1 : rsum (fun j => (P.V j).obj * X j) P.vn = rsum (fun i => rsum (fun j => gsum (x.R j).t (x.R j).m (i : Int) * X j) P.vn * Y i) x.vn := by
    have a1 : rsum (fun j => (P.V j).obj * X j) P.vn = rsum (fun j => rsum (fun i => gsum (x.R j).t (x.R j).m (i : Int) * X j * Y i) x.vn) P.vn := rsum_congr fun j hj => by
      rw [← hR j hj, ← rsum_mul]
      exact rsum_congr fun i _ => by grind
    rw [a1, rsum_swap (fun i j => gsum (x.R j).t (x.R j).m (i : Int) * X j * Y i)]
    exact rsum_congr fun i _ => by rw [rsum_mul]
  rw [e1]
  have h1 := h.up n X hX
  cases mx
  · exact rsum_le fun i hi => Rat.mul_le_mul_of_nonneg_right (h1 i hi) (hY i hi)
  · exact rsum_le fun i hi => Rat.mul_le_mul_of_nonneg_right (h1 i hi) (hY i hi)
end Go.Proofs.YtkgnbcbcgnlodaaGreatDoor

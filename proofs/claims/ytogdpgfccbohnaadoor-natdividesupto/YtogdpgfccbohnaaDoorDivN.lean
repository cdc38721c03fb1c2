import Derived.Test.YtogdpgfccbohnaaDoorDivM
namespace Go.Proofs.YtogdpgfccbohnaaDoor
open Go.RowKit

/-- w' is w but for block g and new memory. -/
structure Near (g : Nat) (w w' : World) : Prop where
  os : w'.os = w.os
  tape : w'.tape = w.tape
  output : w'.output = w.output
  size : w.heap.size ≤ w'.heap.size
  block : ∀ k, k < w.heap.size → k ≠ g → w'.heap[k]? = w.heap[k]?
theorem Near.refl (g : Nat) (w : World) : Near g w w := ⟨rfl, rfl, rfl, Nat.le_refl _, fun _ _ _ => rfl⟩
theorem Near.trans {g : Nat} {a b c : World} (h : Near g a b) (k : Near g b c) : Near g a c :=
  ⟨k.os.trans h.os, k.tape.trans h.tape, k.output.trans h.output, Nat.le_trans h.size k.size, fun i h1 h2 => (k.block i (Nat.lt_of_lt_of_le h1 h.size) h2).trans (h.block i h1 h2)⟩
theorem Off.near {g : Nat} {w w' : World} (h : Off g w w') : Near g w w' := ⟨h.os, h.tape, h.output, Nat.le_of_eq h.size.symm, fun k _ h2 => h.block k h2⟩
theorem near_of {g : Nat} {w w' : World} (h : Below w.heap.size w w') : Near g w w' := ⟨h.os, h.tape, h.output, h.size, fun k h1 _ => h.block k h1⟩
theorem Near.below {g B : Nat} {w w' : World} (h : Near g w w') (hB : B ≤ g) (hB2 : B ≤ w.heap.size) : Below B w w' := ⟨h.os, h.tape, h.output, h.size, fun k hk => h.block k (by omega) (by omega)⟩
theorem Reads.near {w w' : World} {a : Option Addr} {xs : List Int} {g : Nat} (h : Reads w a xs) (ho : Near g w w') (ha : xs ≠ [] → Away a g) : Reads w' a xs := by
  rcases h with h | ⟨b, o, h, hc⟩
  · exact .inl h
  · refine .inr ⟨b, o, h, fun i hi => ?_⟩
    have h1 := World.block_lt_of_cell? _ _ (hc i hi)
    rw [World.cell?_of_block (w := w) (ho.block b (by simpa using h1) (ha (List.length_pos_iff.1 (by omega)) _ h))]
    exact hc i hi
theorem rip_far (o n : Nat) : ∀ (f : Nat) (u : List Int) (c : Int) (i : Nat), f ≤ n → i < o ∨ o + n ≤ i → lm (rip o n f u c) i = lm u i
  | 0, _, _, _, _, _ => rfl
  | f + 1, u, c, i, hf, h => by
    unfold rip
    split
    · rw [rip_far o n f _ _ i (by omega) h, lm_set, if_neg (by omega)]
    · rfl
theorem addR_far (us : List Int) (o : Nat) (ys : List Int) (k i : Nat) (h : i < o ∨ o + k ≤ i) : lm (addR us o ys k).1 i = lm us i := by
  induction k with
  | zero => rfl
  | succ k ih => simp only [addR]; rw [lm_set, if_neg (by omega), ih (by omega)]
theorem addF_far (us : List Int) (o n : Nat) (ys : List Int) (hle : ys.length ≤ n) (i : Nat) (h : i < o ∨ o + n ≤ i) : lm (addF us o n ys) i = lm us i := by
  unfold addF
  rw [rip_far o n _ _ _ i (by omega) h, addR_far us o ys _ i (by omega)]
/-- Added in place; what is carried beyond is lost. -/
theorem addF_sg {us ys : List Int} {o n : Nat} (hu : AllW us) (hy : AllW ys) (hl : o + n ≤ us.length) (hle : ys.length ≤ n) : AllW (addF us o n ys) ∧ ∃ c, 0 ≤ c ∧ c ≤ 1 ∧ sg (addF us o n ys) o n + c * pw n = sg us o n + val ys := by
  obtain ⟨a1, a2, a3, a4⟩ := addR_ok o hu hy ys.length
  have e := addR_val (us := us) (ys := ys) o ys.length (o + n) (by omega) (by omega)
  have hf := addF_far us o n ys hle
  unfold addF at *
  obtain ⟨h2, c', h3, h4, h5⟩ := rip_val o n (o + n) (n - ys.length) (addR us o ys ys.length).1 (addR us o ys ys.length).2 (by omega) a1 a3 a4 (by omega) (by omega)
  refine ⟨h2, c', h3, h4, ?_⟩
  rw [show o + (n - (n - ys.length)) = o + ys.length by omega, e, sg_split, sg_split] at h5
  generalize rip o n (n - ys.length) (addR us o ys ys.length).1 (addR us o ys ys.length).2 = U at *
  have e2 : vS U o = vS us o := vS_congr fun i hi => hf i (.inl hi)
  have e7 : vS ys ys.length = val ys := rfl
  rw [e2, e7, pw_add] at h5
  have h6 : pw o * (sg U o n + c' * pw n) = pw o * (sg us o n + val ys) := by
    rw [Int.mul_add, Int.mul_add, Int.mul_left_comm (pw o) c']
    omega
  exact Int.eq_of_mul_eq_mul_left (by have := pw_pos o; omega) h6
/-- Taken in place, and the limb behind: what is borrowed beyond. -/
theorem tk_sg {us ys : List Int} {o n : Nat} {l : Int} (hu : AllW us) (hy : AllW ys) (hl : Word l) (hn : ys.length = n) (hfit : o + n + 1 ≤ us.length) :
    AllW ((tkR us o ys l n).1.set (o + n) ((lm us (o + n) - (tkR us o ys l n).2) % 18446744073709551616)) ∧
    sg ((tkR us o ys l n).1.set (o + n) ((lm us (o + n) - (tkR us o ys l n).2) % 18446744073709551616)) o (n + 1) - bor (lm us (o + n)) (tkR us o ys l n).2 * pw (n + 1) = sg us o (n + 1) - val ys * l := by
  obtain ⟨h1, h2, h3, h4⟩ := tkR_ok o hu hy hl n
  have e := tkR_val o hu hy hl n (o + (n + 1)) (by omega) (by omega)
  have hx := tkR_far (us := us) (ys := ys) o l n (o + n) (.inr (Nat.le_refl _))
  have hlow : ∀ i, i < o → lm (tkR us o ys l n).1 i = lm us i := fun i hi => tkR_far o l n i (.inl hi)
  refine ⟨h1.set _ _ (word_mod _), ?_⟩
  have a := hu.at (o + n)
  have eb := bor_mul (lm us (o + n)) (tkR us o ys l n).2 (pw (o + n)) a.1 a.2 h3 (by omega)
  generalize (tkR us o ys l n).1 = U at *
  generalize (tkR us o ys l n).2 = C at *
  have es := vS_set (us := U) (n := o + (n + 1)) ((lm us (o + n) - C) % 18446744073709551616) (by omega : o + n < o + (n + 1)) (by omega)
  rw [hx] at es
  have elow : vS (U.set (o + n) ((lm us (o + n) - C) % 18446744073709551616)) o = vS us o := vS_congr fun i hi => by rw [lm_set, if_neg (by omega)]; exact hlow i hi
  have s1 := sg_split (U.set (o + n) ((lm us (o + n) - C) % 18446744073709551616)) o (n + 1)
  have s2 := sg_split us o (n + 1)
  have ey : vS ys n = val ys := by rw [← hn]; rfl
  rw [ey] at e
  rw [elow] at s1
  have ep : pw (o + n) * 18446744073709551616 = pw o * pw (n + 1) := by rw [← pw_succ, ← pw_add]; rfl
  rw [ep] at eb
  rw [Int.sub_mul] at es eb
  generalize sg (U.set (o + n) ((lm us (o + n) - C) % 18446744073709551616)) o (n + 1) = X at *
  generalize sg us o (n + 1) = Y at *
  have h6 : pw o * (X - bor (lm us (o + n)) C * pw (n + 1)) = pw o * (Y - val ys * l) := by
    rw [Int.mul_sub, Int.mul_sub, Int.mul_left_comm (pw o) (bor (lm us (o + n)) C)]
    omega
  exact Int.eq_of_mul_eq_mul_left (by have := pw_pos o; omega) h6
/-- The topmost limbs of a segment. -/
theorem sg_top (us : List Int) (o m : Nat) : sg us o (m + 1) = sg us o m + lm us (o + m) * pw m := by
  show vS (us.drop o) m + lm (us.drop o) m * pw m = _
  rw [lm_drop]; rfl
end Go.Proofs.YtogdpgfccbohnaaDoor

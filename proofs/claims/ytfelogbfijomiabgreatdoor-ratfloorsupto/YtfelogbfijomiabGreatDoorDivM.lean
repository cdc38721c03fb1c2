import Derived.Test.YtfelogbfijomiabGreatDoorDivL
namespace Go.Proofs.YtfelogbfijomiabGreatDoor
open Go.RowKit

/-! ### the mathematics of one step -/
/-- Quotient and trial: the trial by the topmost limbs is right or one too great. -/
theorem try_near {V D W A v d a2 b0 b1 t : Int} (hW : 0 < W) (hV : V = (A * 18446744073709551616 + a2) * W + v) (hD : D = (b0 * 18446744073709551616 + b1) * W + d) (v0 : 0 ≤ v) (v1 : v < W) (d0 : 0 ≤ d) (d1 : d < W)
    (hb0 : 9223372036854775808 ≤ b0) (hb1 : 0 ≤ b1) (hVD : V < D * 18446744073709551616) (hV0 : 0 ≤ V) (hD0 : 0 < D) (ht : TryOk A a2 b0 b1 t) : V / D ≤ t ∧ t ≤ V / D + 1 := by
  obtain ⟨t0, t1, t2, t3⟩ := ht
  have e1 := Int.mul_ediv_add_emod V D
  have m0 := Int.emod_nonneg V (by omega : D ≠ 0)
  have m1 := Int.emod_lt_of_pos V hD0
  have q0 : 0 ≤ V / D := Int.ediv_nonneg hV0 (by omega)
  have q1 : V / D < 18446744073709551616 := Int.ediv_lt_of_lt_mul hD0 (by rw [Int.mul_comm]; exact hVD)
  generalize V / D = q at *
  generalize V % D = m at *
  obtain ⟨Z, hZ⟩ : ∃ Z, Z = b0 * 18446744073709551616 + b1 := ⟨_, rfl⟩
  obtain ⟨T, hT⟩ : ∃ T, T = A * 18446744073709551616 + a2 := ⟨_, rfl⟩
  rw [← hZ] at hD
  rw [← hT] at hV
  have conv : ∀ Q, (Q * b1 ≤ (A - Q * b0) * 18446744073709551616 + a2) ↔ Q * Z ≤ T := fun Q => by
    have e : Q * Z = Q * b0 * 18446744073709551616 + Q * b1 := by rw [hZ, Int.mul_add, Int.mul_assoc]
    rw [e, hT, Int.sub_mul]
    constructor <;> intro h <;> omega
  rw [conv] at t2
  have hZ0 : 9223372036854775808 * 18446744073709551616 ≤ Z := by omega
  constructor
  · refine t3 q q0 q1 ((conv q).2 ?_)
    have h1 : q * Z * W ≤ q * D := by
      rw [hD, Int.mul_add, Int.mul_assoc]
      have := Int.mul_nonneg q0 d0
      omega
    have h2 : q * Z * W < (T + 1) * W := by
      rw [Int.add_mul, Int.one_mul]
      rw [Int.mul_comm] at e1
      omega
    have := Int.lt_of_mul_lt_mul_right h2 (by omega)
    omega
  · rcases (by omega : t ≤ q + 1 ∨ q + 2 ≤ t) with h | h
    · exact h
    · exfalso
      have h1 : t * Z * W ≤ T * W := Int.mul_le_mul_of_nonneg_right t2 (by omega)
      have h2 : V < (q + 1) * D := by rw [Int.add_mul, Int.one_mul]; rw [Int.mul_comm] at e1; omega
      have h3 : (q + 1) * D < (q + 1) * (Z + 1) * W := by
        rw [hD, Int.mul_add, Int.mul_assoc (q + 1) (Z + 1) W, Int.add_mul Z, Int.one_mul, Int.mul_add]
        have := Int.mul_lt_mul_of_pos_left d1 (by omega : 0 < q + 1)
        omega
      have h4 : t * Z * W < (q + 1) * (Z + 1) * W := by omega
      have h5 := Int.lt_of_mul_lt_mul_right h4 (by omega)
      rw [Int.mul_add, Int.mul_one] at h5
      have h6 : (q + 2) * Z ≤ t * Z := Int.mul_le_mul_of_nonneg_right h (by omega)
      have h7 : (q + 2) * Z = (q + 1) * Z + Z := by rw [show q + 2 = (q + 1) + 1 by omega, Int.add_mul (q + 1), Int.one_mul]
      omega
/-- A segment's value. -/
def sg (us : List Int) (o m : Nat) : Int := vS (us.drop o) m
theorem vS_split2 (xs : List Int) (q k : Nat) : vS xs (q + k) = vS xs q + pw q * vS (xs.drop q) k := by
  induction k with
  | zero => simp [vS]
  | succ k ih =>
    show vS xs (q + k) + lm xs (q + k) * pw (q + k) = _ + pw q * (vS (xs.drop q) k + lm (xs.drop q) k * pw k)
    rw [ih, lm_drop, pw_add, Int.mul_add, Int.add_assoc]
    congr 2
    ac_rfl
theorem sg_split (us : List Int) (o m : Nat) : vS us (o + m) = vS us o + pw o * sg us o m := vS_split2 us o m
theorem sg_nn {us : List Int} (hu : AllW us) (o m : Nat) : 0 ≤ sg us o m ∧ sg us o m < pw m := vS_nn (fun x h => hu x (List.mem_of_mem_drop h)) m

/-- w' is w but for block g and new memory. -/
structure Near (g : Nat) (w w' : World) : Prop where
  os : w'.os = w.os
  tape : w'.tape = w.tape
  output : w'.output = w.output
  size : w.heap.size ≤ w'.heap.size
  block : ∀ k, k < w.heap.size → k ≠ g → w'.heap[k]? = w.heap[k]?
theorem Near.refl (g : Nat) (w : World) : Near g w w := ⟨rfl, rfl, rfl, Nat.le_refl _, fun _ _ _ => rfl⟩
theorem Near.trans {g : Nat} {a b c : World} (h : Near g a b) (k : Near g b c) : Near g a c :=
  ⟨k.os.trans h.os, k.tape.trans h.tape, k.output.trans h.output, Nat.le_trans h.size k.size, fun i h1 h2 => (k.block i (Nat.lt_of_lt_of_le h1 h.size) h2).trans (h.block i h1 h2)⟩
theorem Off.near {g : Nat} {w w' : World} (h : Off g w w') : Near g w w' := ⟨h.os, h.tape, h.output, Nat.le_of_eq h.size.symm, fun k _ h2 => h.block k h2⟩
theorem near_of {g : Nat} {w w' : World} (h : Below w.heap.size w w') : Near g w w' := ⟨h.os, h.tape, h.output, h.size, fun k h1 _ => h.block k h1⟩
theorem Near.below {g B : Nat} {w w' : World} (h : Near g w w') (hB : B ≤ g) (hB2 : B ≤ w.heap.size) : Below B w w' := ⟨h.os, h.tape, h.output, h.size, fun k hk => h.block k (by omega) (by omega)⟩
theorem Reads.near {w w' : World} {a : Option Addr} {xs : List Int} {g : Nat} (h : Reads w a xs) (ho : Near g w w') (ha : xs ≠ [] → Away a g) : Reads w' a xs := by
  rcases h with h | ⟨b, o, h, hc⟩
  · exact .inl h
  · refine .inr ⟨b, o, h, fun i hi => ?_⟩
    have h1 := World.block_lt_of_cell? _ _ (hc i hi)
    rw [World.cell?_of_block (w := w) (ho.block b (by simpa using h1) (ha (List.length_pos_iff.1 (by omega)) _ h))]
    exact hc i hi
theorem rip_far (o n : Nat) : ∀ (f : Nat) (u : List Int) (c : Int) (i : Nat), f ≤ n → i < o ∨ o + n ≤ i → lm (rip o n f u c) i = lm u i
  | 0, _, _, _, _, _ => rfl
  | f + 1, u, c, i, hf, h => by
    unfold rip
    split
    · rw [rip_far o n f _ _ i (by omega) h, lm_set, if_neg (by omega)]
    · rfl
theorem addR_far (us : List Int) (o : Nat) (ys : List Int) (k i : Nat) (h : i < o ∨ o + k ≤ i) : lm (addR us o ys k).1 i = lm us i := by
  induction k with
  | zero => rfl
  | succ k ih => simp only [addR]; rw [lm_set, if_neg (by omega), ih (by omega)]
theorem addF_far (us : List Int) (o n : Nat) (ys : List Int) (hle : ys.length ≤ n) (i : Nat) (h : i < o ∨ o + n ≤ i) : lm (addF us o n ys) i = lm us i := by
  unfold addF
  rw [rip_far o n _ _ _ i (by omega) h, addR_far us o ys _ i (by omega)]
/-- Added in place; what is carried beyond is lost. -/
theorem addF_sg {us ys : List Int} {o n : Nat} (hu : AllW us) (hy : AllW ys) (hl : o + n ≤ us.length) (hle : ys.length ≤ n) : AllW (addF us o n ys) ∧ ∃ c, 0 ≤ c ∧ c ≤ 1 ∧ sg (addF us o n ys) o n + c * pw n = sg us o n + val ys := by
  obtain ⟨a1, a2, a3, a4⟩ := addR_ok o hu hy ys.length
  have e := addR_val (us := us) (ys := ys) o ys.length (o + n) (by omega) (by omega)
  have hf := addF_far us o n ys hle
  unfold addF at *
  obtain ⟨h2, c', h3, h4, h5⟩ := rip_val o n (o + n) (n - ys.length) (addR us o ys ys.length).1 (addR us o ys ys.length).2 (by omega) a1 a3 a4 (by omega) (by omega)
  refine ⟨h2, c', h3, h4, ?_⟩
  rw [show o + (n - (n - ys.length)) = o + ys.length by omega, e, sg_split, sg_split] at h5
  generalize rip o n (n - ys.length) (addR us o ys ys.length).1 (addR us o ys ys.length).2 = U at *
  have e2 : vS U o = vS us o := vS_congr fun i hi => hf i (.inl hi)
  have e7 : vS ys ys.length = val ys := rfl
  rw [e2, e7, pw_add] at h5
  have h6 : pw o * (sg U o n + c' * pw n) = pw o * (sg us o n + val ys) := by
    rw [Int.mul_add, Int.mul_add, Int.mul_left_comm (pw o) c']
    omega
  exact Int.eq_of_mul_eq_mul_left (by have := pw_pos o; omega) h6
/-- Taken in place, and the limb behind: what is borrowed beyond. -/
theorem tk_sg {us ys : List Int} {o n : Nat} {l : Int} (hu : AllW us) (hy : AllW ys) (hl : Word l) (hn : ys.length = n) (hfit : o + n + 1 ≤ us.length) :
    AllW ((tkR us o ys l n).1.set (o + n) ((lm us (o + n) - (tkR us o ys l n).2) % 18446744073709551616)) ∧
    sg ((tkR us o ys l n).1.set (o + n) ((lm us (o + n) - (tkR us o ys l n).2) % 18446744073709551616)) o (n + 1) - bor (lm us (o + n)) (tkR us o ys l n).2 * pw (n + 1) = sg us o (n + 1) - val ys * l := by
  obtain ⟨h1, h2, h3, h4⟩ := tkR_ok o hu hy hl n
  have e := tkR_val o hu hy hl n (o + (n + 1)) (by omega) (by omega)
  have hx := tkR_far (us := us) (ys := ys) o l n (o + n) (.inr (Nat.le_refl _))
  have hlow : ∀ i, i < o → lm (tkR us o ys l n).1 i = lm us i := fun i hi => tkR_far o l n i (.inl hi)
  refine ⟨h1.set _ _ (word_mod _), ?_⟩
  have a := hu.at (o + n)
  have eb := bor_mul (lm us (o + n)) (tkR us o ys l n).2 (pw (o + n)) a.1 a.2 h3 (by omega)
  generalize (tkR us o ys l n).1 = U at *
  generalize (tkR us o ys l n).2 = C at *
  have es := vS_set (us := U) (n := o + (n + 1)) ((lm us (o + n) - C) % 18446744073709551616) (by omega : o + n < o + (n + 1)) (by omega)
  rw [hx] at es
  have elow : vS (U.set (o + n) ((lm us (o + n) - C) % 18446744073709551616)) o = vS us o := vS_congr fun i hi => by rw [lm_set, if_neg (by omega)]; exact hlow i hi
  have s1 := sg_split (U.set (o + n) ((lm us (o + n) - C) % 18446744073709551616)) o (n + 1)
  have s2 := sg_split us o (n + 1)
  have ey : vS ys n = val ys := by rw [← hn]; rfl
  rw [ey] at e
  rw [elow] at s1
  have ep : pw (o + n) * 18446744073709551616 = pw o * pw (n + 1) := by rw [← pw_succ, ← pw_add]; rfl
  rw [ep] at eb
  rw [Int.sub_mul] at es eb
  generalize sg (U.set (o + n) ((lm us (o + n) - C) % 18446744073709551616)) o (n + 1) = X at *
  generalize sg us o (n + 1) = Y at *
  have h6 : pw o * (X - bor (lm us (o + n)) C * pw (n + 1)) = pw o * (Y - val ys * l) := by
    rw [Int.mul_sub, Int.mul_sub, Int.mul_left_comm (pw o) (bor (lm us (o + n)) C)]
    omega
  exact Int.eq_of_mul_eq_mul_left (by have := pw_pos o; omega) h6
/-- The topmost limbs of a segment. -/
theorem sg_top (us : List Int) (o m : Nat) : sg us o (m + 1) = sg us o m + lm us (o + m) * pw m := by
  show vS (us.drop o) m + lm (us.drop o) m * pw m = _
  rw [lm_drop]; rfl

theorem tryLimb_le (a0 a1 a2 b0 b1 : Int) (w : World) (ha0 : 0 ≤ a0) (ha1 : Word a1) (ha2 : Word a2) (hb0 : 0 < b0) (hb0' : b0 < 18446744073709551616) (hb1 : Word b1) (hab : a0 ≤ b0) :
    Calls Tryz.prog 152 #[.agg #[.int .u64 a0, .int .u64 a1, .int .u64 a2], .agg #[.int .u64 b0, .int .u64 b1]] w fun e w' => ∃ t, e = .returned (.int .u64 t) ∧ TryOk (a0 * 18446744073709551616 + a1) a2 b0 b1 t ∧ Below w.heap.size w w' := by
  rcases Int.lt_or_eq_of_le hab with h | h
  · exact tryLimb_lt a0 a1 a2 b0 b1 w ha0 ha1 ha2 hb0 hb0' hb1 h
  · exact tryLimb_eq a0 a1 a2 b0 b1 w ha0 ha1 ha2 hb0 hb0' hb1 h
theorem keepB {w w' : World} {p : Addr} {v : Value} (hb : Below w.heap.size w w') (h : w.cell? p = some v) : w'.cell? p = some v := by
  rw [hb.cell (World.block_lt_of_cell? _ _ h)]; exact h

/-- The topmost limbs: the first is not above the divisor's, and the trial is right or one too great. -/
theorem take_math (o m : Nat) (us ys : List Int) (hu : AllW us) (hnb : ys.length = m + 2) (hy : AllW ys) (htop : 9223372036854775808 ≤ lm ys (m + 1)) (hlt : sg us o (m + 3) < val ys * 18446744073709551616) :
    0 < val ys ∧ lm us (o + (m + 2)) ≤ lm ys (m + 1) ∧ ∀ t, TryOk (lm us (o + (m + 2)) * 18446744073709551616 + lm us (o + (m + 1))) (lm us (o + m)) (lm ys (m + 1)) (lm ys m) t → sg us o (m + 3) / val ys ≤ t ∧ t ≤ sg us o (m + 3) / val ys + 1 := by
  obtain ⟨A00, A01⟩ := hu.at (o + (m + 2))
  obtain ⟨A10, A11⟩ := hu.at (o + (m + 1))
  obtain ⟨A20, A21⟩ := hu.at (o + m)
  obtain ⟨B00, B01⟩ := hy.at (m + 1)
  obtain ⟨B10, B11⟩ := hy.at m
  have hV0 := (sg_nn hu o (m + 3)).1
  have hyv : val ys = vS ys m + lm ys m * pw m + lm ys (m + 1) * pw (m + 1) := by unfold val; rw [hnb]; rfl
  have hd := vS_nn hy m
  have hW := pw_pos m
  have hsv : sg us o (m + 3) = sg us o m + lm us (o + m) * pw m + lm us (o + (m + 1)) * pw (m + 1) + lm us (o + (m + 2)) * pw (m + 2) := by rw [sg_top, sg_top, sg_top]
  have hsn := sg_nn hu o m
  have hD0 : 0 < val ys := by
    have h1 := pw_pos (m + 1)
    have h2 := Int.mul_pos (by omega : 0 < lm ys (m + 1)) h1
    have h3 := Int.mul_nonneg B10 (Int.le_of_lt hW)
    omega
  obtain ⟨A0, hA0⟩ : ∃ x, lm us (o + (m + 2)) = x := ⟨_, rfl⟩
  obtain ⟨A1, hA1⟩ : ∃ x, lm us (o + (m + 1)) = x := ⟨_, rfl⟩
  obtain ⟨A2, hA2⟩ : ∃ x, lm us (o + m) = x := ⟨_, rfl⟩
  obtain ⟨B0, hB0⟩ : ∃ x, lm ys (m + 1) = x := ⟨_, rfl⟩
  obtain ⟨B1, hB1⟩ : ∃ x, lm ys m = x := ⟨_, rfl⟩
  rw [hA0] at A00 A01 hsv
  rw [hA1] at A10 A11 hsv
  rw [hA2] at A20 A21 hsv
  rw [hB0] at B00 B01 hyv htop
  rw [hB1] at B10 B11 hyv
  rw [hA0, hA1, hA2, hB0, hB1]
  clear hA0 hA1 hA2 hB0 hB1
  have p2 : pw (m + 2) = pw m * 18446744073709551616 * 18446744073709551616 := by rw [pw_succ, pw_succ]
  have p1 : pw (m + 1) = pw m * 18446744073709551616 := pw_succ m
  have HVE : Hid (sg us o (m + 3) = ((A0 * 18446744073709551616 + A1) * 18446744073709551616 + A2) * pw m + sg us o m) := by
    show _ = _
    rw [hsv, p2, p1, Int.add_mul, Int.add_mul, Int.add_mul]
    have e1 : A0 * 18446744073709551616 * 18446744073709551616 * pw m = A0 * (pw m * 18446744073709551616 * 18446744073709551616) := by ac_rfl
    have e2 : A1 * 18446744073709551616 * pw m = A1 * (pw m * 18446744073709551616) := by ac_rfl
    omega
  have HDE : Hid (val ys = (B0 * 18446744073709551616 + B1) * pw m + vS ys m) := by
    show _ = _
    rw [hyv, p1, Int.add_mul]
    have e2 : B0 * 18446744073709551616 * pw m = B0 * (pw m * 18446744073709551616) := by ac_rfl
    omega
  have hAB : A0 ≤ B0 := by
    rcases (by omega : A0 ≤ B0 ∨ B0 + 1 ≤ A0) with h | h
    · exact h
    · exfalso
      have h1 := Int.mul_le_mul_of_nonneg_right (c := pw m * 18446744073709551616 * 18446744073709551616) h (by omega)
      rw [Int.add_mul, Int.one_mul] at h1
      have h2 := HDE.out
      have h3 := HVE.out
      have e1 : ((A0 * 18446744073709551616 + A1) * 18446744073709551616 + A2) * pw m = A0 * (pw m * 18446744073709551616 * 18446744073709551616) + (A1 * 18446744073709551616 + A2) * pw m := by
        have e3 : (A0 * 18446744073709551616 + A1) * 18446744073709551616 + A2 = A0 * 340282366920938463463374607431768211456 + (A1 * 18446744073709551616 + A2) := by omega
        rw [e3, Int.add_mul]
        congr 1
        rw [Int.mul_assoc, Int.mul_comm 340282366920938463463374607431768211456 (pw m), Int.mul_assoc (pw m)]
        rfl
      have h4 := Int.mul_nonneg (by omega : 0 ≤ A1 * 18446744073709551616 + A2) (Int.le_of_lt hW)
      have h5 : (B0 * 18446744073709551616 + B1) * pw m ≤ (B0 * 18446744073709551616 + 18446744073709551615) * pw m := Int.mul_le_mul_of_nonneg_right (by omega) (by omega)
      have h6 : (B0 * 18446744073709551616 + 18446744073709551615) * pw m = B0 * (pw m * 18446744073709551616) + 18446744073709551615 * pw m := by rw [Int.add_mul, Int.mul_assoc, Int.mul_comm 18446744073709551616 (pw m)]
      have h7 : B0 * (pw m * 18446744073709551616) * 18446744073709551616 = B0 * (pw m * 18446744073709551616 * 18446744073709551616) := Int.mul_assoc _ _ _
      have h8 : B0 * (pw m * 18446744073709551616) * 18446744073709551616 + pw m * 18446744073709551616 * 18446744073709551616 ≤ val ys * 18446744073709551616 → False := by
        intro h
        omega
      omega
  exact ⟨hD0, hAB, fun t ht => try_near hW HVE.out HDE.out hsn.1 hsn.2 hd.1 hd.2 htop B10 hlt hV0 hD0 ht⟩
end Go.Proofs.YtfelogbfijomiabGreatDoor

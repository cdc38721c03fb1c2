import Derived.Test.YtbagfdlmedljjaaGreatDoorR3M
import Derived.Test.YtbagfdlmedljjaaGreatDoorR3Ac
namespace Go.Proofs.YtbagfdlmedljjaaGreatDoor
open Go.RowKit

theorem abs_val {f : Bool} {m x y : Int} {r : Rat} (hm : 0 ≤ m) (hx : ws f m = x) (hy : 0 < y) (h : Rat.divInt x y = r) : Rat.divInt m y = absR r := by
  have d1 : 0 < (r.den : Int) := by have := r.den_pos; omega
  have e1 : x * r.den = r.num * y := by
    have h0 := Rat.num_divInt_den r
    rw [← h] at h0 ⊢
    exact ((Rat.divInt_eq_divInt_iff (by have := (Rat.divInt x y).den_pos; omega) (by omega)).1 h0).symm
  have s1 := congrArg Int.sign e1
  rw [Int.sign_mul, Int.sign_mul, Int.sign_eq_one_of_pos d1, Int.sign_eq_one_of_pos hy, Int.mul_one, Int.mul_one] at s1
  unfold absR
  cases f with
  | false =>
    have hx' : m = x := hx
    have hn : ¬ r.num < 0 := fun hn => by
      rw [Int.sign_eq_neg_one_of_neg hn] at s1
      have := Int.neg_of_sign_eq_neg_one s1
      omega
    rw [if_neg hn, hx', h]
  | true =>
    have hx' : -m = x := hx
    by_cases hz : m = 0
    · have hx0 : x = 0 := by omega
      have hn : ¬ r.num < 0 := fun hn => by
        rw [hx0, Int.sign_eq_neg_one_of_neg hn] at s1
        exact absurd s1 (by decide)
      rw [if_neg hn, ← h, hz, hx0]
    · have hn : r.num < 0 := by
        rw [Int.sign_eq_neg_one_of_neg (by omega : x < 0)] at s1
        exact Int.neg_of_sign_eq_neg_one s1.symm
      rw [if_pos hn, ← h, ← hx', Rat.neg_divInt, Int.neg_neg]
set_option maxHeartbeats 4000000 in
/-- rat.Abs -/
theorem absQ {p : Bool} {a : Option Addr} {na ca : Nat} {d : Option Addr} {nd cd : Nat} {r : Rat} {S : Nat} (w : World) (hr : TR w p a na ca d nd cd r S) (hS : S ≤ 7000000) (hS1 : 1 ≤ S) (hT : TB w) :
    Calls Tryz.prog 28 #[.agg #[.bool p, .slice a na ca, .slice d nd cd]] w fun e w' => ∃ f c n k c' n' k', e = .returned (.agg #[.bool f, .slice c n k, .slice c' n' k']) ∧ GR w' w.heap.size f c n k c' n' k' (absR r) (S) ∧ Below w.heap.size w w' := by
  obtain ⟨P0, R0, hb0, hsz⟩ := box_rr w (.bool p) (.slice a na ca) (.slice d nd cd) (.bool false) (.slice none 0 0) (.slice none 0 0) 28
  replace hr := hr.below hb0
  replace hT := hT.below hb0
  go_enter Tryz.func28, Tryz.ntmps28
  obtain ⟨p0c0, p0c1, p0c2, p0c3, p0c4, p0c5⟩ := id P0
  go_wp2_with fail
  generalize (w.alloc (.cells #[.bool p, .slice a na ca, .slice d nd cd] 28)).alloc (.cells #[.bool false, .slice none 0 0, .slice none 0 0] 28) = W0 at *
  refine (partsR _ hr (by omega) hS1).mono ?_
  rintro e w1 ⟨f1, c1, n1, k1, f2, c2, n2, k2, x1, y1, rfl, T1, T2, hy1, hq1, hx⟩
  clear p0c0 p0c1 p0c2 p0c3 p0c4 p0c5
  replace hr := hr.below hx
  replace hT := hT.below hx
  replace R0 := R0.below hx
  replace P0 := P0.below hx
  replace hb0 := bel_tr hb0 hx
  have hsw1 : W0.heap.size ≤ w1.heap.size := Below.size hx
  clear hx
  obtain ⟨p0c0, p0c1, p0c2, p0c3, p0c4, p0c5⟩ := id P0
  clear p0c0 p0c1 p0c2 p0c3 p0c4 p0c5 P0
  clear hr
  have T3 : ∃ z, TI w1 false c1 n1 k1 z S ∧ Hid (Rat.divInt z y1 = absR r) := by
    obtain ⟨m, M1, hm⟩ := T1
    exact ⟨m, ⟨m, M1, rfl⟩, abs_val M1.nn hm hy1 hq1⟩
  obtain ⟨z, T4, HV⟩ := T3
  clear T1 hq1
  obtain ⟨V1, V2, hx, hsxw2⟩ := box2 w1 (.bool false) (.slice c1 n1 k1) (.bool f2) (.slice c2 n2 k2) 26
  replace hT := hT.below hx
  replace R0 := R0.below hx
  replace T2 := T2.below hx
  replace T4 := T4.below hx
  replace hb0 := bel_tr hb0 hx
  have hsw2 : w1.heap.size ≤ ((w1.alloc (.cells #[.bool false, .slice c1 n1 k1] 26)).alloc (.cells #[.bool f2, .slice c2 n2 k2] 26)).heap.size := Below.size hx
  clear hx
  obtain ⟨v1c0, v1c1, v1c2, v1c3⟩ := id V1
  obtain ⟨v2c0, v2c1, v2c2, v2c3⟩ := id V2
  go_wp2_with fail
  generalize (w1.alloc (.cells #[.bool false, .slice c1 n1 k1] 26)).alloc (.cells #[.bool f2, .slice c2 n2 k2] 26) = w2 at *
  refine (lowestR _ T4 T2 (by omega) (by omega) hT).mono ?_
  rintro e w3 ⟨g5, u5, m5, l5, u6, m6, l6, rfl, GG, hx⟩
  clear v1c0 v1c1 v1c2 v1c3 v2c0 v2c1 v2c2 v2c3
  replace hT := hT.below hx
  replace R0 := R0.below hx
  replace T2 := T2.below hx
  replace T4 := T4.below hx
  replace V1 := V1.below hx
  replace V2 := V2.below hx
  replace hb0 := bel_tr hb0 hx
  have hsw3 : w2.heap.size ≤ w3.heap.size := Below.size hx
  clear hx
  replace GG := GG.val HV.out
  obtain ⟨v1c0, v1c1, v1c2, v1c3⟩ := id V1
  obtain ⟨v2c0, v2c1, v2c2, v2c3⟩ := id V2
  clear T4 T2 hT
  clear v1c0 v1c1 v1c2 v1c3 v2c0 v2c1 v2c2 v2c3
  clear V1 V2
  obtain ⟨z0, z1, z2, z3, z4, z5⟩ := id R0
  obtain ⟨V, O⟩ := R0.set (.bool g5) (.slice u5 m5 l5) (.slice u6 m6 l6)
  have GF := (GG.mono (B' := w.heap.size + 2) (by omega)).off O (by omega)
  have hw := hb0.trans (O.below (by omega))
  clear R0 O GG hb0
  go_wp2
  refine bodyPost_ret (v := .agg #[.bool g5, .slice u5 m5 l5, .slice u6 m6 l6]) (by simp [results, Tryz.results28, go_sem, V.c0, V.c1, V.c2]) rfl ⟨_, _, _, _, _, _, _, rfl, GF.mono (by omega), hw⟩
end Go.Proofs.YtbagfdlmedljjaaGreatDoor

import Derived.Test.YtogdpgfccbohnaaDoorRefL
namespace Go.Proofs.YtogdpgfccbohnaaDoor
open Go.RowKit

theorem rofGot (v : Int) (w : World) (h0 : 0 ≤ v) (h1 : v < 18446744073709551616) :
    Calls Tryd.prog 20 #[.int .u64 v] w fun e w' => ∃ c n cc, e = .returned (.slice c n cc) ∧ Got w' w.heap.size (.slice c n cc) v 1 ∧ Below w.heap.size w w' := by
  refine (rof_any v w h0 h1).mono ?_
  rintro e w' ⟨c, cc, rfl, ho, hb⟩
  have t1 : tlen [v] ≤ 1 := tl_le _ _
  have ev : val [v] = v := by simp [val, vS, lm, pw]
  exact ⟨c, _, cc, rfl, ⟨trimL [v], ho, NF.trimL (fun x hx => by simp at hx; subst hx; exact ⟨h0, h1⟩), by rw [val_trimL]; exact ev, by rw [length_trimL]; exact t1⟩, hb⟩
theorem uval_fit {xs : List Int} (hx : AllW xs) (h : ufit xs = true) : uval xs = val xs ∧ 0 ≤ val xs ∧ val xs < 18446744073709551616 := by
  have h1 : tlen xs ≤ 1 := by simpa [ufit] using h
  have h2 := val_lt_tlen hx
  have h3 := val_nn hx
  have h4 := pw_mono h1
  have h5 : pw 1 = 18446744073709551616 := by simp [pw]
  refine ⟨?_, h3, by omega⟩
  unfold uval
  split
  · rename_i h6
    have h7 := vS_trim xs
    rw [h6] at h7
    rw [← h7]
    simp [vS, pw]
  · rename_i h6
    rw [(tlen_zero hx).1 (by omega)]
theorem uval_far {xs : List Int} (h : ufit xs = false) : uval xs = 0 := by
  have h1 : ¬ tlen xs ≤ 1 := by simpa [ufit] using h
  unfold uval; rw [if_neg (by omega)]

set_option maxRecDepth 100000 in
set_option maxHeartbeats 1000000 in
/-- The document's quotient and rest, of words. -/
theorem rdivW {a b : Option Addr} {na nb ca cb : Nat} (xs ys : List Int) (w : World) (h1 : na = xs.length) (h2 : na ≤ ca) (h3 : na ≤ 10000000) (h4 : Reads w a xs) (h5 : AllW xs) (k1 : nb = ys.length) (k2 : nb ≤ cb) (k3 : nb ≤ 10000000) (k4 : Reads w b ys) (k5 : AllW ys) (hy : 0 < val ys) (u1 : ufit xs = true) (u2 : ufit ys = true) :
    Calls Tryd.prog 37 #[.slice a na ca, .slice b nb cb] w fun e w' => ∃ c n cc c' n' cc', e = .returned (.tuple #[.slice c n cc, .slice c' n' cc']) ∧ Got w' w.heap.size (.slice c n cc) (val xs / val ys) 1 ∧ Got w' w.heap.size (.slice c' n' cc') (val xs % val ys) 1 ∧ Below w.heap.size w w' := by
  obtain ⟨e1, x0, x1⟩ := uval_fit h5 u1
  obtain ⟨e2, y0, y1⟩ := uval_fit k5 u2
  have E1 : Hid (uval xs = val xs) := e1
  have E2 : Hid (uval ys = val ys) := e2
  have U1 : Hid (ufit xs = true) := u1
  have U2 : Hid (ufit ys = true) := u2
  have H1 : Hid (na = xs.length) := h1
  have K1 : Hid (nb = ys.length) := k1
  clear e1 e2 u1 u2 h1 k1
  go_enter Tryd.func37, Tryd.ntmps37
  go_wp2_with fail
  refine (ruint64_any a na ca xs _ H1.out h2 (by omega) h4 h5).mono ?_
  rintro e w1 ⟨rfl, hb1⟩
  have k4' := k4.below hb1
  go_wp2_with fail
  refine (ruint64_any b nb cb ys _ K1.out k2 (by omega) k4' k5).mono ?_
  rintro e w2 ⟨rfl, hb2⟩
  have HB := bel_tr hb1 hb2
  rw [U1.out, U2.out, E1.out, E2.out]
  clear h2 h3 h4 h5 k2 k3 k4 k5 k4' hb1 hb2 E1 E2 U1 U2 H1 K1
  obtain ⟨x, hx⟩ : ∃ x, val xs = x := ⟨_, rfl⟩
  obtain ⟨y, hy'⟩ : ∃ y, val ys = y := ⟨_, rfl⟩
  have HX : Hid (val xs = x) := hx
  have HY : Hid (val ys = y) := hy'
  rw [hx] at x0 x1
  rw [hy'] at hy y0 y1
  rw [hx, hy']
  clear hx hy'
  have hyz : (y == 0) = false := beq_eq_false_iff_ne.2 (by omega)
  have q0 := Int.ediv_nonneg x0 y0
  have q1 := Int.ediv_le_self y x0
  have m0 := Int.emod_nonneg x (by omega : y ≠ 0)
  have m1 := Int.emod_lt_of_pos x hy
  obtain ⟨q, hq⟩ : ∃ q, x / y = q := ⟨_, rfl⟩
  obtain ⟨r, hr⟩ : ∃ r, x % y = r := ⟨_, rfl⟩
  rw [hq] at q0 q1
  rw [hr] at m0 m1
  have T1 : IntKind.u64.wrap (x.tdiv y) = q := by rw [Int.tdiv_eq_ediv_of_nonneg x0, hq, IntKind.wrap_u64]; omega
  have T2 : x.tmod y = r := by rw [Int.tmod_eq_emod_of_nonneg x0, hr]
  have HQ : Hid (val xs / val ys = q) := by show _ = _; rw [HX.out, HY.out, hq]
  have HR : Hid (val xs % val ys = r) := by show _ = _; rw [HX.out, HY.out, hr]
  have hsz := HB.size
  have hyne : ¬ y = 0 := by omega
  clear hq hr
  go_wp2_with fail
  go_region_held3 (fun w' => True)
    (trivial)
    ((first
      | (go_at_call 20; go_fit (rofGot q _ q0 (by omega)); rintro e wA ⟨c1, n1, d1, rfl, G1, hbA⟩)
      | (go_at_call 20; go_fit (rofGot r _ m0 (by omega)); rintro e wB ⟨c2, n2, d2, rfl, G2, hbB⟩)))
  have G1' := (G1.below hbB).mono (B' := w.heap.size) (by simp; omega)
  have hsA := hbA.size
  have G2' := G2.mono (B' := w.heap.size) (by simp at hsA; omega)
  rw [← HQ.out] at G1'
  rw [← HR.out] at G2'
  have HB2 := bel_tr (bel_tr HB (belN (Below.refl _ _) 1)) (bel_tr hbA hbB)
  clear G1 G2 hbA hbB HB
  go_wp2
  go_ret2
  exact ⟨_, _, _, _, _, _, rfl, G1', G2', HB2⟩
end Go.Proofs.YtogdpgfccbohnaaDoor

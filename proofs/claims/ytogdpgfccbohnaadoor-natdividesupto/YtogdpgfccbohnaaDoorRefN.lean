import Derived.Test.YtogdpgfccbohnaaDoorRefT
namespace Go.Proofs.YtogdpgfccbohnaaDoor
open Go.RowKit

theorem div_fin {x y d Q p : Int} (h : x * d = Q * (y * d) + p) (h0 : 0 ≤ p) (h1 : p < y * d) (hd : 0 < d) (hy : 0 < y) : Q = x / y ∧ p / d = x % y := by
  have e : p = (x - Q * y) * d := by rw [Int.sub_mul, Int.mul_assoc]; omega
  have e1 : p / d = x - Q * y := by rw [e, Int.mul_ediv_cancel _ (by omega)]
  have m0 : 0 ≤ x - Q * y := by
    by_cases h : 0 ≤ x - Q * y
    · exact h
    · have := Int.mul_neg_of_neg_of_pos (by omega : x - Q * y < 0) hd; omega
  have m1 : x - Q * y < y := lt_of_mul hd (by omega)
  have := (Int.ediv_emod_unique hy).2 ⟨(by rw [Int.mul_comm y]; omega : (x - Q * y) + y * Q = x), m0, m1⟩
  exact ⟨this.1.symm, by rw [e1]; exact this.2.symm⟩
theorem ediv_pos1 {T : Int} (h0 : 0 < T) (h1 : T < 4294967296) : 0 < 4294967296 / (T + 1) := (Int.le_ediv_iff_mul_le (by omega)).2 (by omega)
theorem ediv_lt1 {T : Int} (h0 : 0 < T) : 4294967296 / (T + 1) < 4294967296 := Int.ediv_lt_of_lt_mul (by omega) (by omega)
theorem own_new1 (w : World) (z : Int) : OwnV (w.alloc (.cells #[Value.int .u64 z] 24)) w.heap.size (.slice (some ⟨w.heap.size, 0, none⟩) 1 1) [z] := by
  have h : Blk (w.alloc (.cells #[Value.int .u64 z] 24)) w.heap.size [z] := blk_new [z]
  have := (h.row 1 (by unfold maxLen; simp)).own (Nat.le_refl w.heap.size)
  simpa using this
theorem HNum.off {w w' : World} {a : Option Addr} {n cap : Nat} {x : Int} {S g : Nat} (h : HNum w a n cap x S) (ho : Off g w w') (ha : Away a g) : HNum w' a n cap x S := by
  obtain ⟨xs, h1, h2, h3, h4⟩ := h
  exact ⟨xs, h1, h2, h3.off ho ha, h4⟩
theorem HNum.nil (w : World) (S : Nat) : HNum w none 0 0 0 S := ⟨[], rfl, Nat.le_refl _, .inl rfl, AllH.nil, rfl, Nat.zero_le _, rfl⟩
theorem HNum.top {w : World} {a : Option Addr} {n cap : Nat} {x : Int} {S : Nat} (h : HNum w a n cap x S) (hx : 0 < x) : ∃ k b o T, n = k + 1 ∧ a = some ⟨b, o, none⟩ ∧ w.cell? ⟨b, o + k, none⟩ = some (.int .u64 T) ∧ 0 < T ∧ T < 4294967296 := by
  obtain ⟨ys, b1, b2, hrb, hy, b5, b6, b7⟩ := h
  have hpos : 0 < n := by
    rcases Nat.eq_zero_or_pos n with h | h
    · have : ys = [] := List.eq_nil_of_length_eq_zero (by omega)
      subst this; simp [valH, vH] at b5; omega
    · exact h
  obtain ⟨k, hk⟩ : ∃ k, n = k + 1 := ⟨n - 1, by omega⟩
  subst hk
  obtain ⟨b, o, e, hc⟩ := hrb.at (by omega)
  refine ⟨k, b, o, lm ys k, rfl, e, hc k (by omega), ?_, (hy.at k).2⟩
  rcases Int.lt_or_eq_of_le (hy.at k).1 with h | h
  · exact h
  · exfalso
    unfold tlen at b7
    rw [← b1] at b7
    unfold tl at b7
    rw [if_pos h.symm] at b7
    have := tl_le ys k
    omega

set_option maxRecDepth 100000 in
set_option maxHeartbeats 4000000 in
theorem rdivL_ff {a b : Option Addr} {na nb ca cb : Nat} (xs ys : List Int) (w0 : World) (h1 : na = xs.length) (h2 : na ≤ ca) (h3 : na ≤ 10000000) (h4 : Reads w0 a xs) (h5 : AllW xs) (k1 : nb = ys.length) (k2 : nb ≤ cb) (k3 : nb ≤ 10000000) (k4 : Reads w0 b ys) (k5 : AllW ys) (hy : 0 < val ys) (u1 : ufit xs = false) (u2 : ufit ys = false) :
    Calls Tryd.prog 37 #[.slice a na ca, .slice b nb cb] w0 fun e w' => ∃ c n cc c' n' cc', e = .returned (.tuple #[.slice c n cc, .slice c' n' cc']) ∧ Got w' w0.heap.size (.slice c n cc) (val xs / val ys) 20000001 ∧ Got w' w0.heap.size (.slice c' n' cc') (val xs % val ys) 20000001 ∧ Below w0.heap.size w0 w' := by
  have HA : Hid (Num w0 a na ca (val xs) 10000000) := ⟨xs, h1, h2, h4, h5, rfl, h3⟩
  have HBN : Hid (Num w0 b nb cb (val ys) 10000000) := ⟨ys, k1, k2, k4, k5, rfl, k3⟩
  have E2 : Hid (uval ys = 0) := uval_far u2
  have U1 : Hid (ufit xs = false) := u1
  have U2 : Hid (ufit ys = false) := u2
  have H1 : Hid (na = xs.length) := h1
  have K1 : Hid (nb = ys.length) := k1
  clear u1 u2 h1 k1
  go_enter Tryd.func37, Tryd.ntmps37
  go_wp2_with fail
  refine (ruint64_any a na ca xs _ H1.out h2 (by omega) h4 h5).mono ?_
  rintro e w1 ⟨rfl, hb1⟩
  have k4' := k4.below hb1
  go_wp2_with fail
  refine (ruint64_any b nb cb ys _ K1.out k2 (by omega) k4' k5).mono ?_
  rintro e w2 ⟨rfl, hb2⟩
  have HT := bel_tr hb1 hb2
  have HA := HA.out.below HT
  have HBN := HBN.out.below HT
  rw [U1.out, U2.out, E2.out]
  clear h2 h3 h4 h5 k2 k3 k4 k5 k4' hb1 hb2 E2 U1 U2 H1 K1
  obtain ⟨x, hx⟩ : ∃ x, val xs = x := ⟨_, rfl⟩
  obtain ⟨y, hy'⟩ : ∃ y, val ys = y := ⟨_, rfl⟩
  have HX : Hid (val xs = x) := hx
  have HY : Hid (val ys = y) := hy'
  rw [hx] at HA
  rw [hy'] at hy HBN
  clear hx hy'
  generalize uval xs = V at *
  go_wp2_with fail
  refine (halvesV _ HBN (by omega)).mono ?_
  rintro e w3 ⟨yb, yn, yc, rfl, H3, hb3⟩
  replace HA := HA.below hb3
  replace HT := bel_tr HT hb3
  obtain ⟨k, bb, oo, T, ek, rfl, hct, hT0, hT1⟩ := H3.top hy
  subst ek
  have hkb : k + 1 ≤ 20000000 := by obtain ⟨_, _, _, _, _, _, h6, _⟩ := H3; omega
  obtain ⟨d, hd⟩ : ∃ d, 4294967296 / (T + 1) = d := ⟨_, rfl⟩
  have hd0 : 0 < d := by rw [← hd]; exact ediv_pos1 hT0 hT1
  have hd1 : d < 4294967296 := by rw [← hd]; exact ediv_lt1 hT0
  have T1 : IntKind.u64.wrap (Int.tdiv 4294967296 (T + 1)) = d := by rw [Int.tdiv_eq_ediv_of_nonneg (by omega), hd, IntKind.wrap_u64]; omega
  have T2 : Int.tdiv 4294967296 (T + 1) = d := by rw [Int.tdiv_eq_ediv_of_nonneg (by omega), hd]
  have hTn : ¬ T + 1 = 0 := by omega
  clear HBN hb3 hd
  go_wp2_with fail
  refine (halvesV _ HA (by omega)).mono ?_
  rintro e w4 ⟨xb, xn, xc, rfl, H4, hb4⟩
  replace H3 := H3.below hb4
  replace HT := bel_tr HT hb4
  clear HA hb4 hct
  go_wp2_with fail
  refine (rtimesV _ H4 (by omega) hd1 (by omega)).mono ?_
  rintro e w5 ⟨xb', xn', xc', rfl, H5, hb5⟩
  replace H3 := H3.below hb5
  replace HT := bel_tr HT hb5
  clear H4 hb5
  go_wp2_with fail
  refine (rtimesV _ H3 (by omega) hd1 (by omega)).mono ?_
  rintro e w ⟨yb', yn', yc', rfl, H6, hb6⟩
  replace H5 := H5.below hb6
  replace HT := bel_tr HT hb6
  clear H3 hb6
  obtain ⟨X, hX⟩ : ∃ X, x * d = X := ⟨_, rfl⟩
  obtain ⟨Y, hY⟩ : ∃ Y, y * d = Y := ⟨_, rfl⟩
  rw [hX] at H5
  rw [hY] at H6
  have HXd : Hid (x * d = X) := hX
  have HYd : Hid (y * d = Y) := hY
  have hY0 : 0 < Y := by rw [← hY]; exact Int.mul_pos hy hd0
  clear hX hY
  have hpY : Hid (Y < pwH (20000001)) := by
    obtain ⟨ys', g1, _, _, g4, g5, g6, _⟩ := H6
    show Y < _
    rw [← g5]
    exact Int.lt_of_lt_of_le (valH_lt g4) (pwH_mono (by omega))
  obtain ⟨zs, z1, z2, hrz, hz, z5, z6, _⟩ := H5
  have Z1 : Hid (xn' = zs.length) := z1
  have Z5 : Hid (valH zs = X) := z5
  clear z1 z5
  go_wp2_with (at_make; refine wpList_makeH _ rfl _ _ rfl _ _ xn' rfl rfl (by omega) (by omega) (by omega) ?_)
  intro wm hbm hbelm
  obtain ⟨G, hG⟩ : ∃ G, G = w.heap.size := ⟨_, rfl⟩
  have HG : Hid (G = w.heap.size) := hG
  rw [← hG] at hbm hbelm
  rw [← hG]
  clear hG
  go_wp2
  go_loopw [14, 15] (fun rv t wr => ∃ (k : Nat) (U : List Int) (p : Int) (ra : Option Addr) (rn rc : Nat), k ≤ xn' ∧ t = .int .i64 ((k : Int) - 1) ∧ rv = .slice ra rn rc ∧ HNum wr ra rn rc p 20000001 ∧ 0 ≤ p ∧ p < Y ∧ Blk wr G U ∧ U.length = xn' ∧ AllH U ∧ (∀ j, j < k → lm U j = 0) ∧ valH zs - vH zs k = vH U xn' * Y + p * pwH k ∧ Below G w wr) (fun _ t _ => ((intOf t) + 1).toNat)
  case atStart => exact ⟨xn', _, 0, none, 0, 0, Nat.le_refl _, rfl, rfl, HNum.nil _ _, by omega, hY0, hbm, by simp, AllH.replicate _, fun j _ => lm_replicate _ _, by rw [vH_long (us := zs) (by have := Z1.out; omega), vH_congr (us := List.replicate xn' 0) (vs := []) (fun j _ => by rw [lm_replicate, lm_ge (by simp)]), vH_long (us := []) (by simp)]; simp [vH, valH], hbelm⟩
  case round =>
    clear hbm hbelm
    obtain ⟨k, U, p, ra, rn, rc, hk, rfl, rfl, HP, hp0, hp1, hbr, hU, hUh, hzz, hV, hbel⟩ := hrel
    have HU : Hid (U.length = xn') := hU
    have HUh : Hid (AllH U) := hUh
    have HV : Hid (valH zs - vH zs k = vH U xn' * Y + p * pwH k) := hV
    have HZ : Hid (∀ j, j < k → lm U j = 0) := hzz
    have hsz := hbel.size
    clear hU hUh hV hzz
    by_cases hk0 : k = 0
    · subst hk0
      have HE : Hid (valH U = val xs / val ys ∧ p / d = val xs % val ys) := by
        have e := HV.out
        have e2 : vH U xn' = valH U := by unfold valH; rw [HU.out]
        rw [e2, Z5.out] at e
        simp [vH, pwH] at e
        rw [← HXd.out, ← HYd.out] at e
        show _ ∧ _
        rw [HX.out, HY.out]
        exact div_fin e hp0 (by rw [HYd.out]; exact hp1) hd0 hy
      have hre : Reads wr (some ⟨G, 0, none⟩) U := by have := hbr.reads U.length; rwa [List.take_length] at this
      clear hrz HV hbr
      go_wp2_with fail
      refine (rpartV _ HP hd0 hd1 (by omega)).mono ?_
      rintro e w7 ⟨c7, n7, cc7, rfl, H7, hb7⟩
      replace hre := hre.below hb7
      rw [HE.out.2] at H7
      have HT7 : Below w0.heap.size w0 w7 := bel_tr (bel_tr HT (by rw [HG.out] at hbel; exact hbel)) hb7
      have hs7 := HT7.size
      clear HP hbel hb7 HT
      obtain ⟨D, hD⟩ : ∃ D, p % d = D := ⟨_, rfl⟩
      rw [hD]
      clear hD
      go_wp2_with fail
      refine (numberL U _ HU.out.symm (Nat.le_refl _) (by omega) hre HUh.out 20000001 (by omega)).mono ?_
      rintro e wA ⟨c1, n1, d1, rfl, G1, hbA⟩
      replace H7 := H7.below hbA
      have hsA := hbA.size
      clear hre
      go_wp2_with fail
      refine (numberV _ H7 (by omega)).mono ?_
      rintro e wB ⟨c2, n2, d2, rfl, G2, hbB⟩
      have G1' := (G1.below hbB).mono (B' := w0.heap.size) (by omega)
      have G2' := G2.mono (B' := w0.heap.size) (by omega)
      rw [HE.out.1] at G1'
      have HB2 := bel_tr HT7 (bel_tr hbA hbB)
      clear G1 G2 hbA hbB HT7 H7
      go_wp2
      go_ret2
      exact ⟨_, _, _, _, _, _, rfl, G1', G2', HB2⟩
    · obtain ⟨j, rfl⟩ : ∃ j, k = j + 1 := ⟨k - 1, by omega⟩
      have hj : j < xn' := by omega
      have hjn : (j : Int) < (xn' : Int) := by omega
      obtain ⟨x0, x1⟩ := hz.at j
      obtain ⟨b1, o1, rfl, hc1⟩ := hrz.at (by have := Z1.out; omega)
      have h1 := hc1 j (by have := Z1.out; omega)
      have hb1' : b1 < G := by rw [HG.out]; simpa using World.block_lt_of_cell? _ _ h1
      have hcx : wr.cell? ⟨b1, o1 + j, none⟩ = some (.int .u64 (lm zs j)) := by rw [hbel.cell (p := ⟨b1, o1 + j, none⟩) (by exact hb1')]; exact h1
      clear hrz hc1 h1
      have HBR : Hid (Blk wr G U) := hbr
      have hGl := hbr.lt
      obtain ⟨rs, r1, r2, hrr, hrh, r5, r6, _⟩ := HP
      have R1 : Hid (rn = rs.length) := r1
      have R5 : Hid (valH rs = p) := r5
      have HRH : Hid (AllH rs) := hrh
      clear r1 r5 hbr hrh
      obtain ⟨z, hzj⟩ : ∃ z, lm zs j = z := ⟨_, rfl⟩
      have HZJ : Hid (lm zs j = z) := hzj
      rw [hzj] at hcx x0 x1
      clear hzj
      have hown0 : OwnV (wr.alloc (.cells #[Value.int .u64 z] 24)) wr.heap.size (.slice (some ⟨wr.heap.size, 0, none⟩) 1 1) [z] := own_new1 wr z
      have hrr0 : Reads (wr.alloc (.cells #[Value.int .u64 z] 24)) ra rs := hrr.below ((Below.refl _ _).alloc (Nat.le_refl _) _)
      have hB0 : Below wr.heap.size wr (wr.alloc (.cells #[Value.int .u64 z] 24)) := (Below.refl _ _).alloc (Nat.le_refl _) _
      clear hrr
      go_wp2_with (at_builtin; refine wpList_appendL 22 Tryd.underlying22 _ rfl _ _ rfl wr.heap.size (.slice (some ⟨wr.heap.size, 0, none⟩) 1 1) [z] rfl hown0 ra rn rc rs rfl R1.out hrr0 (by simp; omega) (by simp) ?_)
      intro va w8 hown8 hgrow8
      have hbel8 : Below wr.heap.size wr w8 := hB0.trans (grown_below hgrow8 (by simp) (fun q hq => by simp [Value.ownBlock] at hq; omega))
      have LZ : Hid (([z] ++ rs).length = rn + 1) := by show _ = _; rw [R1.out]; simp
      obtain ⟨va', vc', rfl⟩ := own_form hown8 LZ.out
      have haw : Away va' G := fun q hq => by
        subst hq
        have := (hown8.lt q.block (by simp [Value.ownBlock])).1
        omega
      obtain ⟨g1, g2, g3⟩ := hown8.reads
      clear hown0 hrr0 hgrow8 hown8 hB0 g1 hcx
      go_wp2_with fail
      refine (rcut_any va' (rn + 1) vc' ([z] ++ rs) w8 LZ.out.symm g2 (by omega) g3).mono ?_
      rintro e wsame ⟨rfl, rfl⟩
      have hle : tlen ([z] ++ rs) ≤ ([z] ++ rs).length := tl_le _ _
      rw [LZ.out] at hle
      have H9 := HNum.of_trim (hs := [z] ++ rs) (S := 20000002) (cap := vc') g3 (Nat.le_trans hle g2) (AllH.append (fun u hu => by simp at hu; subst hu; exact ⟨x0, x1⟩) HRH.out) (Nat.le_trans hle (by omega))
      have EV : Hid (valH ([z] ++ rs) = p * 4294967296 + z) := by show valH (z :: rs) = _; rw [valH_cons, R5.out, Int.mul_comm]; omega
      rw [EV.out] at H9
      have hbelY : Below G w w8 := hbel.trans (hbel8.mono (by omega))
      have HY8 := H6.below (w' := w8) (by rw [HG.out] at hbelY; exact hbelY)
      obtain ⟨tn, htn⟩ : ∃ tn, tlen ([z] ++ rs) = tn := ⟨_, rfl⟩
      rw [htn] at H9 hle
      rw [htn]
      clear htn
      have hp2 : p * 4294967296 + z < Y * 4294967296 := by omega
      obtain ⟨r, hr⟩ : ∃ r, p * 4294967296 + z = r := ⟨_, rfl⟩
      have HR : Hid (r = p * 4294967296 + z) := hr.symm
      rw [hr] at H9 hp2
      clear g2 g3 hr EV
      go_wp2_with fail
      refine (rguessV _ H9 HY8 (by omega) (by omega) hY0 hp2).mono ?_
      rintro e w9 ⟨dq, rfl, dq0, dq1, hq1, hq2, hb9⟩
      have hB9 : Below wr.heap.size wr w9 := bel_tr hbel8 hb9
      have hbr9 := HBR.out.below hB9 hGl
      have hL9 : Below G w w9 := hbel.trans (hB9.mono (by omega))
      replace H9 := H9.below hb9
      have hcu := hbr9.cell (i := j) (by rw [HU.out]; exact hj)
      have hfu := hbr9.frozen j
      have hB10 := hbr9.set j dq
      have hL10 := hL9.setCell (p := ⟨G, j, none⟩) (Nat.le_refl _) (.int .u64 dq)
      have hO10 := (Off.refl G w9).set j (.int .u64 dq)
      have H10 := H9.off hO10 haw
      have HU2 : Hid ((U.set j dq).length = xn') := by show _ = _; rw [List.length_set, HU.out]
      have HA2 : Hid (AllH (U.set j dq)) := HUh.out.set _ _ ⟨dq0, dq1⟩
      have HZ2 : Hid (∀ i, i < j → lm (U.set j dq) i = 0) := fun i hi => by rw [lm_set, if_neg (by omega)]; exact HZ.out i (by omega)
      have HRR : Hid (r = dq * Y + (r - dq * Y)) := by show _ = _; omega
      have HV2 : Hid (valH zs - vH zs j = vH (U.set j dq) xn' * Y + (r - dq * Y) * pwH j) := by
        show _ = _
        rw [vH_set _ hj (by rw [HU.out]; exact hj), HZ.out j (by omega), Int.sub_zero]
        have e := HV.out
        rw [pwH_succ] at e
        have e2 := part_step (x := lm zs j) e (by rw [HZJ.out]; exact HR.out) HRR.out
        rw [← e2, vH_top]
        omega
      have HY10 := H6.below (w' := w9.setCell ⟨G, j, none⟩ (.int .u64 dq)) (hL10.mono (by have := HG.out; omega))
      have hcq := hB10.cell (i := j) (by rw [HU2.out]; exact hj)
      rw [lm_set, if_pos ⟨rfl, by rw [HU.out]; exact hj⟩] at hcq
      have hr0 : 0 ≤ r - dq * Y := by omega
      have hr1 : r - dq * Y < Y := by rw [Int.add_mul] at hq2; omega
      have HQ1 : Hid (dq * Y ≤ r) := hq1
      clear hbel8 hbelY HY8 hb9 hB9 hbr9 hL9 H9 HBR hbel hO10 HR hp2 hq1 hq2 hle haw
      go_wp2_with fail
      refine (rtimesV _ HY10 dq0 dq1 (by omega)).mono ?_
      rintro e w11 ⟨tb, tn', tc, rfl, H11, hb11⟩
      replace H10 := H10.below hb11
      have hB11 := hB10.below hb11 hB10.lt
      have hL11 : Below G w w11 := hL10.trans (hb11.mono (by have := hB10.lt; omega))
      clear HY10 hB10 hL10 hb11 hcq hcu hfu
      go_wp2_with fail
      refine (minusV _ H10 H11 (by omega) (by omega) (by rw [Int.mul_comm]; exact HQ1.out)).mono ?_
      rintro e w12 ⟨mb, mn, mc, rfl, H12, hb12⟩
      have hB12 := hB11.below hb12 hB11.lt
      have hL12 : Below G w w12 := hL11.trans (hb12.mono (by have := hB11.lt; omega))
      rw [Int.mul_comm Y dq] at H12
      have H13 := H12.shrink (m := 20000001) (Int.lt_trans hr1 hpY.out)
      clear H10 H11 hB11 hL11 hb12 H12
      generalize r - dq * Y = p' at *
      go_wp2
      go_roundw
      case rel => exact ⟨j, _, p', mb, mn, mc, by omega, by go_num, rfl, H13, hr0, hr1, hB12, HU2.out, HA2.out, HZ2.out, HV2.out, hL12⟩
      case measure => simp [intOf]

set_option maxRecDepth 100000 in
set_option maxHeartbeats 4000000 in
theorem rdivL_tf {a b : Option Addr} {na nb ca cb : Nat} (xs ys : List Int) (w0 : World) (h1 : na = xs.length) (h2 : na ≤ ca) (h3 : na ≤ 10000000) (h4 : Reads w0 a xs) (h5 : AllW xs) (k1 : nb = ys.length) (k2 : nb ≤ cb) (k3 : nb ≤ 10000000) (k4 : Reads w0 b ys) (k5 : AllW ys) (hy : 0 < val ys) (u1 : ufit xs = true) (u2 : ufit ys = false) :
    Calls Tryd.prog 37 #[.slice a na ca, .slice b nb cb] w0 fun e w' => ∃ c n cc c' n' cc', e = .returned (.tuple #[.slice c n cc, .slice c' n' cc']) ∧ Got w' w0.heap.size (.slice c n cc) (val xs / val ys) 20000001 ∧ Got w' w0.heap.size (.slice c' n' cc') (val xs % val ys) 20000001 ∧ Below w0.heap.size w0 w' := by
  have HA : Hid (Num w0 a na ca (val xs) 10000000) := ⟨xs, h1, h2, h4, h5, rfl, h3⟩
  have HBN : Hid (Num w0 b nb cb (val ys) 10000000) := ⟨ys, k1, k2, k4, k5, rfl, k3⟩
  have E2 : Hid (uval ys = 0) := uval_far u2
  have U1 : Hid (ufit xs = true) := u1
  have U2 : Hid (ufit ys = false) := u2
  have H1 : Hid (na = xs.length) := h1
  have K1 : Hid (nb = ys.length) := k1
  clear u1 u2 h1 k1
  go_enter Tryd.func37, Tryd.ntmps37
  go_wp2_with fail
  refine (ruint64_any a na ca xs _ H1.out h2 (by omega) h4 h5).mono ?_
  rintro e w1 ⟨rfl, hb1⟩
  have k4' := k4.below hb1
  go_wp2_with fail
  refine (ruint64_any b nb cb ys _ K1.out k2 (by omega) k4' k5).mono ?_
  rintro e w2 ⟨rfl, hb2⟩
  have HT := bel_tr hb1 hb2
  have HA := HA.out.below HT
  have HBN := HBN.out.below HT
  rw [U1.out, U2.out, E2.out]
  clear h2 h3 h4 h5 k2 k3 k4 k5 k4' hb1 hb2 E2 U1 U2 H1 K1
  obtain ⟨x, hx⟩ : ∃ x, val xs = x := ⟨_, rfl⟩
  obtain ⟨y, hy'⟩ : ∃ y, val ys = y := ⟨_, rfl⟩
  have HX : Hid (val xs = x) := hx
  have HY : Hid (val ys = y) := hy'
  rw [hx] at HA
  rw [hy'] at hy HBN
  clear hx hy'
  generalize uval xs = V at *
  go_wp2_with fail
  refine (halvesV _ HBN (by omega)).mono ?_
  rintro e w3 ⟨yb, yn, yc, rfl, H3, hb3⟩
  replace HA := HA.below hb3
  replace HT := bel_tr HT hb3
  obtain ⟨k, bb, oo, T, ek, rfl, hct, hT0, hT1⟩ := H3.top hy
  subst ek
  have hkb : k + 1 ≤ 20000000 := by obtain ⟨_, _, _, _, _, _, h6, _⟩ := H3; omega
  obtain ⟨d, hd⟩ : ∃ d, 4294967296 / (T + 1) = d := ⟨_, rfl⟩
  have hd0 : 0 < d := by rw [← hd]; exact ediv_pos1 hT0 hT1
  have hd1 : d < 4294967296 := by rw [← hd]; exact ediv_lt1 hT0
  have T1 : IntKind.u64.wrap (Int.tdiv 4294967296 (T + 1)) = d := by rw [Int.tdiv_eq_ediv_of_nonneg (by omega), hd, IntKind.wrap_u64]; omega
  have T2 : Int.tdiv 4294967296 (T + 1) = d := by rw [Int.tdiv_eq_ediv_of_nonneg (by omega), hd]
  have hTn : ¬ T + 1 = 0 := by omega
  clear HBN hb3 hd
  go_wp2_with fail
  refine (halvesV _ HA (by omega)).mono ?_
  rintro e w4 ⟨xb, xn, xc, rfl, H4, hb4⟩
  replace H3 := H3.below hb4
  replace HT := bel_tr HT hb4
  clear HA hb4 hct
  go_wp2_with fail
  refine (rtimesV _ H4 (by omega) hd1 (by omega)).mono ?_
  rintro e w5 ⟨xb', xn', xc', rfl, H5, hb5⟩
  replace H3 := H3.below hb5
  replace HT := bel_tr HT hb5
  clear H4 hb5
  go_wp2_with fail
  refine (rtimesV _ H3 (by omega) hd1 (by omega)).mono ?_
  rintro e w ⟨yb', yn', yc', rfl, H6, hb6⟩
  replace H5 := H5.below hb6
  replace HT := bel_tr HT hb6
  clear H3 hb6
  obtain ⟨X, hX⟩ : ∃ X, x * d = X := ⟨_, rfl⟩
  obtain ⟨Y, hY⟩ : ∃ Y, y * d = Y := ⟨_, rfl⟩
  rw [hX] at H5
  rw [hY] at H6
  have HXd : Hid (x * d = X) := hX
  have HYd : Hid (y * d = Y) := hY
  have hY0 : 0 < Y := by rw [← hY]; exact Int.mul_pos hy hd0
  clear hX hY
  have hpY : Hid (Y < pwH (20000001)) := by
    obtain ⟨ys', g1, _, _, g4, g5, g6, _⟩ := H6
    show Y < _
    rw [← g5]
    exact Int.lt_of_lt_of_le (valH_lt g4) (pwH_mono (by omega))
  obtain ⟨zs, z1, z2, hrz, hz, z5, z6, _⟩ := H5
  have Z1 : Hid (xn' = zs.length) := z1
  have Z5 : Hid (valH zs = X) := z5
  clear z1 z5
  go_wp2_with (at_make; refine wpList_makeH _ rfl _ _ rfl _ _ xn' rfl rfl (by omega) (by omega) (by omega) ?_)
  intro wm hbm hbelm
  obtain ⟨G, hG⟩ : ∃ G, G = w.heap.size := ⟨_, rfl⟩
  have HG : Hid (G = w.heap.size) := hG
  rw [← hG] at hbm hbelm
  rw [← hG]
  clear hG
  go_wp2
  go_loopw [14, 15] (fun rv t wr => ∃ (k : Nat) (U : List Int) (p : Int) (ra : Option Addr) (rn rc : Nat), k ≤ xn' ∧ t = .int .i64 ((k : Int) - 1) ∧ rv = .slice ra rn rc ∧ HNum wr ra rn rc p 20000001 ∧ 0 ≤ p ∧ p < Y ∧ Blk wr G U ∧ U.length = xn' ∧ AllH U ∧ (∀ j, j < k → lm U j = 0) ∧ valH zs - vH zs k = vH U xn' * Y + p * pwH k ∧ Below G w wr) (fun _ t _ => ((intOf t) + 1).toNat)
  case atStart => exact ⟨xn', _, 0, none, 0, 0, Nat.le_refl _, rfl, rfl, HNum.nil _ _, by omega, hY0, hbm, by simp, AllH.replicate _, fun j _ => lm_replicate _ _, by rw [vH_long (us := zs) (by have := Z1.out; omega), vH_congr (us := List.replicate xn' 0) (vs := []) (fun j _ => by rw [lm_replicate, lm_ge (by simp)]), vH_long (us := []) (by simp)]; simp [vH, valH], hbelm⟩
  case round =>
    clear hbm hbelm
    obtain ⟨k, U, p, ra, rn, rc, hk, rfl, rfl, HP, hp0, hp1, hbr, hU, hUh, hzz, hV, hbel⟩ := hrel
    have HU : Hid (U.length = xn') := hU
    have HUh : Hid (AllH U) := hUh
    have HV : Hid (valH zs - vH zs k = vH U xn' * Y + p * pwH k) := hV
    have HZ : Hid (∀ j, j < k → lm U j = 0) := hzz
    have hsz := hbel.size
    clear hU hUh hV hzz
    by_cases hk0 : k = 0
    · subst hk0
      have HE : Hid (valH U = val xs / val ys ∧ p / d = val xs % val ys) := by
        have e := HV.out
        have e2 : vH U xn' = valH U := by unfold valH; rw [HU.out]
        rw [e2, Z5.out] at e
        simp [vH, pwH] at e
        rw [← HXd.out, ← HYd.out] at e
        show _ ∧ _
        rw [HX.out, HY.out]
        exact div_fin e hp0 (by rw [HYd.out]; exact hp1) hd0 hy
      have hre : Reads wr (some ⟨G, 0, none⟩) U := by have := hbr.reads U.length; rwa [List.take_length] at this
      clear hrz HV hbr
      go_wp2_with fail
      refine (rpartV _ HP hd0 hd1 (by omega)).mono ?_
      rintro e w7 ⟨c7, n7, cc7, rfl, H7, hb7⟩
      replace hre := hre.below hb7
      rw [HE.out.2] at H7
      have HT7 : Below w0.heap.size w0 w7 := bel_tr (bel_tr HT (by rw [HG.out] at hbel; exact hbel)) hb7
      have hs7 := HT7.size
      clear HP hbel hb7 HT
      obtain ⟨D, hD⟩ : ∃ D, p % d = D := ⟨_, rfl⟩
      rw [hD]
      clear hD
      go_wp2_with fail
      refine (numberL U _ HU.out.symm (Nat.le_refl _) (by omega) hre HUh.out 20000001 (by omega)).mono ?_
      rintro e wA ⟨c1, n1, d1, rfl, G1, hbA⟩
      replace H7 := H7.below hbA
      have hsA := hbA.size
      clear hre
      go_wp2_with fail
      refine (numberV _ H7 (by omega)).mono ?_
      rintro e wB ⟨c2, n2, d2, rfl, G2, hbB⟩
      have G1' := (G1.below hbB).mono (B' := w0.heap.size) (by omega)
      have G2' := G2.mono (B' := w0.heap.size) (by omega)
      rw [HE.out.1] at G1'
      have HB2 := bel_tr HT7 (bel_tr hbA hbB)
      clear G1 G2 hbA hbB HT7 H7
      go_wp2
      go_ret2
      exact ⟨_, _, _, _, _, _, rfl, G1', G2', HB2⟩
    · obtain ⟨j, rfl⟩ : ∃ j, k = j + 1 := ⟨k - 1, by omega⟩
      have hj : j < xn' := by omega
      have hjn : (j : Int) < (xn' : Int) := by omega
      obtain ⟨x0, x1⟩ := hz.at j
      obtain ⟨b1, o1, rfl, hc1⟩ := hrz.at (by have := Z1.out; omega)
      have h1 := hc1 j (by have := Z1.out; omega)
      have hb1' : b1 < G := by rw [HG.out]; simpa using World.block_lt_of_cell? _ _ h1
      have hcx : wr.cell? ⟨b1, o1 + j, none⟩ = some (.int .u64 (lm zs j)) := by rw [hbel.cell (p := ⟨b1, o1 + j, none⟩) (by exact hb1')]; exact h1
      clear hrz hc1 h1
      have HBR : Hid (Blk wr G U) := hbr
      have hGl := hbr.lt
      obtain ⟨rs, r1, r2, hrr, hrh, r5, r6, _⟩ := HP
      have R1 : Hid (rn = rs.length) := r1
      have R5 : Hid (valH rs = p) := r5
      have HRH : Hid (AllH rs) := hrh
      clear r1 r5 hbr hrh
      obtain ⟨z, hzj⟩ : ∃ z, lm zs j = z := ⟨_, rfl⟩
      have HZJ : Hid (lm zs j = z) := hzj
      rw [hzj] at hcx x0 x1
      clear hzj
      have hown0 : OwnV (wr.alloc (.cells #[Value.int .u64 z] 24)) wr.heap.size (.slice (some ⟨wr.heap.size, 0, none⟩) 1 1) [z] := own_new1 wr z
      have hrr0 : Reads (wr.alloc (.cells #[Value.int .u64 z] 24)) ra rs := hrr.below ((Below.refl _ _).alloc (Nat.le_refl _) _)
      have hB0 : Below wr.heap.size wr (wr.alloc (.cells #[Value.int .u64 z] 24)) := (Below.refl _ _).alloc (Nat.le_refl _) _
      clear hrr
      go_wp2_with (at_builtin; refine wpList_appendL 22 Tryd.underlying22 _ rfl _ _ rfl wr.heap.size (.slice (some ⟨wr.heap.size, 0, none⟩) 1 1) [z] rfl hown0 ra rn rc rs rfl R1.out hrr0 (by simp; omega) (by simp) ?_)
      intro va w8 hown8 hgrow8
      have hbel8 : Below wr.heap.size wr w8 := hB0.trans (grown_below hgrow8 (by simp) (fun q hq => by simp [Value.ownBlock] at hq; omega))
      have LZ : Hid (([z] ++ rs).length = rn + 1) := by show _ = _; rw [R1.out]; simp
      obtain ⟨va', vc', rfl⟩ := own_form hown8 LZ.out
      have haw : Away va' G := fun q hq => by
        subst hq
        have := (hown8.lt q.block (by simp [Value.ownBlock])).1
        omega
      obtain ⟨g1, g2, g3⟩ := hown8.reads
      clear hown0 hrr0 hgrow8 hown8 hB0 g1 hcx
      go_wp2_with fail
      refine (rcut_any va' (rn + 1) vc' ([z] ++ rs) w8 LZ.out.symm g2 (by omega) g3).mono ?_
      rintro e wsame ⟨rfl, rfl⟩
      have hle : tlen ([z] ++ rs) ≤ ([z] ++ rs).length := tl_le _ _
      rw [LZ.out] at hle
      have H9 := HNum.of_trim (hs := [z] ++ rs) (S := 20000002) (cap := vc') g3 (Nat.le_trans hle g2) (AllH.append (fun u hu => by simp at hu; subst hu; exact ⟨x0, x1⟩) HRH.out) (Nat.le_trans hle (by omega))
      have EV : Hid (valH ([z] ++ rs) = p * 4294967296 + z) := by show valH (z :: rs) = _; rw [valH_cons, R5.out, Int.mul_comm]; omega
      rw [EV.out] at H9
      have hbelY : Below G w w8 := hbel.trans (hbel8.mono (by omega))
      have HY8 := H6.below (w' := w8) (by rw [HG.out] at hbelY; exact hbelY)
      obtain ⟨tn, htn⟩ : ∃ tn, tlen ([z] ++ rs) = tn := ⟨_, rfl⟩
      rw [htn] at H9 hle
      rw [htn]
      clear htn
      have hp2 : p * 4294967296 + z < Y * 4294967296 := by omega
      obtain ⟨r, hr⟩ : ∃ r, p * 4294967296 + z = r := ⟨_, rfl⟩
      have HR : Hid (r = p * 4294967296 + z) := hr.symm
      rw [hr] at H9 hp2
      clear g2 g3 hr EV
      go_wp2_with fail
      refine (rguessV _ H9 HY8 (by omega) (by omega) hY0 hp2).mono ?_
      rintro e w9 ⟨dq, rfl, dq0, dq1, hq1, hq2, hb9⟩
      have hB9 : Below wr.heap.size wr w9 := bel_tr hbel8 hb9
      have hbr9 := HBR.out.below hB9 hGl
      have hL9 : Below G w w9 := hbel.trans (hB9.mono (by omega))
      replace H9 := H9.below hb9
      have hcu := hbr9.cell (i := j) (by rw [HU.out]; exact hj)
      have hfu := hbr9.frozen j
      have hB10 := hbr9.set j dq
      have hL10 := hL9.setCell (p := ⟨G, j, none⟩) (Nat.le_refl _) (.int .u64 dq)
      have hO10 := (Off.refl G w9).set j (.int .u64 dq)
      have H10 := H9.off hO10 haw
      have HU2 : Hid ((U.set j dq).length = xn') := by show _ = _; rw [List.length_set, HU.out]
      have HA2 : Hid (AllH (U.set j dq)) := HUh.out.set _ _ ⟨dq0, dq1⟩
      have HZ2 : Hid (∀ i, i < j → lm (U.set j dq) i = 0) := fun i hi => by rw [lm_set, if_neg (by omega)]; exact HZ.out i (by omega)
      have HRR : Hid (r = dq * Y + (r - dq * Y)) := by show _ = _; omega
      have HV2 : Hid (valH zs - vH zs j = vH (U.set j dq) xn' * Y + (r - dq * Y) * pwH j) := by
        show _ = _
        rw [vH_set _ hj (by rw [HU.out]; exact hj), HZ.out j (by omega), Int.sub_zero]
        have e := HV.out
        rw [pwH_succ] at e
        have e2 := part_step (x := lm zs j) e (by rw [HZJ.out]; exact HR.out) HRR.out
        rw [← e2, vH_top]
        omega
      have HY10 := H6.below (w' := w9.setCell ⟨G, j, none⟩ (.int .u64 dq)) (hL10.mono (by have := HG.out; omega))
      have hcq := hB10.cell (i := j) (by rw [HU2.out]; exact hj)
      rw [lm_set, if_pos ⟨rfl, by rw [HU.out]; exact hj⟩] at hcq
      have hr0 : 0 ≤ r - dq * Y := by omega
      have hr1 : r - dq * Y < Y := by rw [Int.add_mul] at hq2; omega
      have HQ1 : Hid (dq * Y ≤ r) := hq1
      clear hbel8 hbelY HY8 hb9 hB9 hbr9 hL9 H9 HBR hbel hO10 HR hp2 hq1 hq2 hle haw
      go_wp2_with fail
      refine (rtimesV _ HY10 dq0 dq1 (by omega)).mono ?_
      rintro e w11 ⟨tb, tn', tc, rfl, H11, hb11⟩
      replace H10 := H10.below hb11
      have hB11 := hB10.below hb11 hB10.lt
      have hL11 : Below G w w11 := hL10.trans (hb11.mono (by have := hB10.lt; omega))
      clear HY10 hB10 hL10 hb11 hcq hcu hfu
      go_wp2_with fail
      refine (minusV _ H10 H11 (by omega) (by omega) (by rw [Int.mul_comm]; exact HQ1.out)).mono ?_
      rintro e w12 ⟨mb, mn, mc, rfl, H12, hb12⟩
      have hB12 := hB11.below hb12 hB11.lt
      have hL12 : Below G w w12 := hL11.trans (hb12.mono (by have := hB11.lt; omega))
      rw [Int.mul_comm Y dq] at H12
      have H13 := H12.shrink (m := 20000001) (Int.lt_trans hr1 hpY.out)
      clear H10 H11 hB11 hL11 hb12 H12
      generalize r - dq * Y = p' at *
      go_wp2
      go_roundw
      case rel => exact ⟨j, _, p', mb, mn, mc, by omega, by go_num, rfl, H13, hr0, hr1, hB12, HU2.out, HA2.out, HZ2.out, HV2.out, hL12⟩
      case measure => simp [intOf]

set_option maxRecDepth 100000 in
set_option maxHeartbeats 4000000 in
theorem rdivL_ft {a b : Option Addr} {na nb ca cb : Nat} (xs ys : List Int) (w0 : World) (h1 : na = xs.length) (h2 : na ≤ ca) (h3 : na ≤ 10000000) (h4 : Reads w0 a xs) (h5 : AllW xs) (k1 : nb = ys.length) (k2 : nb ≤ cb) (k3 : nb ≤ 10000000) (k4 : Reads w0 b ys) (k5 : AllW ys) (hy : 0 < val ys) (u1 : ufit xs = false) (u2 : ufit ys = true) :
    Calls Tryd.prog 37 #[.slice a na ca, .slice b nb cb] w0 fun e w' => ∃ c n cc c' n' cc', e = .returned (.tuple #[.slice c n cc, .slice c' n' cc']) ∧ Got w' w0.heap.size (.slice c n cc) (val xs / val ys) 20000001 ∧ Got w' w0.heap.size (.slice c' n' cc') (val xs % val ys) 20000001 ∧ Below w0.heap.size w0 w' := by
  have HA : Hid (Num w0 a na ca (val xs) 10000000) := ⟨xs, h1, h2, h4, h5, rfl, h3⟩
  have HBN : Hid (Num w0 b nb cb (val ys) 10000000) := ⟨ys, k1, k2, k4, k5, rfl, k3⟩
  obtain ⟨e2, y0, y1⟩ := uval_fit k5 u2
  have E2 : Hid (uval ys = val ys) := e2
  clear e2
  have U1 : Hid (ufit xs = false) := u1
  have U2 : Hid (ufit ys = true) := u2
  have H1 : Hid (na = xs.length) := h1
  have K1 : Hid (nb = ys.length) := k1
  clear u1 u2 h1 k1
  go_enter Tryd.func37, Tryd.ntmps37
  go_wp2_with fail
  refine (ruint64_any a na ca xs _ H1.out h2 (by omega) h4 h5).mono ?_
  rintro e w1 ⟨rfl, hb1⟩
  have k4' := k4.below hb1
  go_wp2_with fail
  refine (ruint64_any b nb cb ys _ K1.out k2 (by omega) k4' k5).mono ?_
  rintro e w2 ⟨rfl, hb2⟩
  have HT := bel_tr hb1 hb2
  have HA := HA.out.below HT
  have HBN := HBN.out.below HT
  rw [U1.out, U2.out, E2.out]
  clear h2 h3 h4 h5 k2 k3 k4 k5 k4' hb1 hb2 E2 U1 U2 H1 K1
  obtain ⟨x, hx⟩ : ∃ x, val xs = x := ⟨_, rfl⟩
  obtain ⟨y, hy'⟩ : ∃ y, val ys = y := ⟨_, rfl⟩
  have HX : Hid (val xs = x) := hx
  have HY : Hid (val ys = y) := hy'
  rw [hx] at HA
  rw [hy'] at hy HBN y0 y1
  rw [hy']
  have hyz : (y == 0) = false := beq_eq_false_iff_ne.2 (by omega)
  clear hx hy'
  generalize uval xs = V at *
  go_wp2_with fail
  refine (halvesV _ HBN (by omega)).mono ?_
  rintro e w3 ⟨yb, yn, yc, rfl, H3, hb3⟩
  replace HA := HA.below hb3
  replace HT := bel_tr HT hb3
  obtain ⟨k, bb, oo, T, ek, rfl, hct, hT0, hT1⟩ := H3.top hy
  subst ek
  have hkb : k + 1 ≤ 20000000 := by obtain ⟨_, _, _, _, _, _, h6, _⟩ := H3; omega
  obtain ⟨d, hd⟩ : ∃ d, 4294967296 / (T + 1) = d := ⟨_, rfl⟩
  have hd0 : 0 < d := by rw [← hd]; exact ediv_pos1 hT0 hT1
  have hd1 : d < 4294967296 := by rw [← hd]; exact ediv_lt1 hT0
  have T1 : IntKind.u64.wrap (Int.tdiv 4294967296 (T + 1)) = d := by rw [Int.tdiv_eq_ediv_of_nonneg (by omega), hd, IntKind.wrap_u64]; omega
  have T2 : Int.tdiv 4294967296 (T + 1) = d := by rw [Int.tdiv_eq_ediv_of_nonneg (by omega), hd]
  have hTn : ¬ T + 1 = 0 := by omega
  clear HBN hb3 hd
  go_wp2_with fail
  refine (halvesV _ HA (by omega)).mono ?_
  rintro e w4 ⟨xb, xn, xc, rfl, H4, hb4⟩
  replace H3 := H3.below hb4
  replace HT := bel_tr HT hb4
  clear HA hb4 hct
  go_wp2_with fail
  refine (rtimesV _ H4 (by omega) hd1 (by omega)).mono ?_
  rintro e w5 ⟨xb', xn', xc', rfl, H5, hb5⟩
  replace H3 := H3.below hb5
  replace HT := bel_tr HT hb5
  clear H4 hb5
  go_wp2_with fail
  refine (rtimesV _ H3 (by omega) hd1 (by omega)).mono ?_
  rintro e w ⟨yb', yn', yc', rfl, H6, hb6⟩
  replace H5 := H5.below hb6
  replace HT := bel_tr HT hb6
  clear H3 hb6
  obtain ⟨X, hX⟩ : ∃ X, x * d = X := ⟨_, rfl⟩
  obtain ⟨Y, hY⟩ : ∃ Y, y * d = Y := ⟨_, rfl⟩
  rw [hX] at H5
  rw [hY] at H6
  have HXd : Hid (x * d = X) := hX
  have HYd : Hid (y * d = Y) := hY
  have hY0 : 0 < Y := by rw [← hY]; exact Int.mul_pos hy hd0
  clear hX hY
  have hpY : Hid (Y < pwH (20000001)) := by
    obtain ⟨ys', g1, _, _, g4, g5, g6, _⟩ := H6
    show Y < _
    rw [← g5]
    exact Int.lt_of_lt_of_le (valH_lt g4) (pwH_mono (by omega))
  obtain ⟨zs, z1, z2, hrz, hz, z5, z6, _⟩ := H5
  have Z1 : Hid (xn' = zs.length) := z1
  have Z5 : Hid (valH zs = X) := z5
  clear z1 z5
  go_wp2_with (at_make; refine wpList_makeH _ rfl _ _ rfl _ _ xn' rfl rfl (by omega) (by omega) (by omega) ?_)
  intro wm hbm hbelm
  obtain ⟨G, hG⟩ : ∃ G, G = w.heap.size := ⟨_, rfl⟩
  have HG : Hid (G = w.heap.size) := hG
  rw [← hG] at hbm hbelm
  rw [← hG]
  clear hG
  go_wp2
  go_loopw [14, 15] (fun rv t wr => ∃ (k : Nat) (U : List Int) (p : Int) (ra : Option Addr) (rn rc : Nat), k ≤ xn' ∧ t = .int .i64 ((k : Int) - 1) ∧ rv = .slice ra rn rc ∧ HNum wr ra rn rc p 20000001 ∧ 0 ≤ p ∧ p < Y ∧ Blk wr G U ∧ U.length = xn' ∧ AllH U ∧ (∀ j, j < k → lm U j = 0) ∧ valH zs - vH zs k = vH U xn' * Y + p * pwH k ∧ Below G w wr) (fun _ t _ => ((intOf t) + 1).toNat)
  case atStart => exact ⟨xn', _, 0, none, 0, 0, Nat.le_refl _, rfl, rfl, HNum.nil _ _, by omega, hY0, hbm, by simp, AllH.replicate _, fun j _ => lm_replicate _ _, by rw [vH_long (us := zs) (by have := Z1.out; omega), vH_congr (us := List.replicate xn' 0) (vs := []) (fun j _ => by rw [lm_replicate, lm_ge (by simp)]), vH_long (us := []) (by simp)]; simp [vH, valH], hbelm⟩
  case round =>
    clear hbm hbelm
    obtain ⟨k, U, p, ra, rn, rc, hk, rfl, rfl, HP, hp0, hp1, hbr, hU, hUh, hzz, hV, hbel⟩ := hrel
    have HU : Hid (U.length = xn') := hU
    have HUh : Hid (AllH U) := hUh
    have HV : Hid (valH zs - vH zs k = vH U xn' * Y + p * pwH k) := hV
    have HZ : Hid (∀ j, j < k → lm U j = 0) := hzz
    have hsz := hbel.size
    clear hU hUh hV hzz
    by_cases hk0 : k = 0
    · subst hk0
      have HE : Hid (valH U = val xs / val ys ∧ p / d = val xs % val ys) := by
        have e := HV.out
        have e2 : vH U xn' = valH U := by unfold valH; rw [HU.out]
        rw [e2, Z5.out] at e
        simp [vH, pwH] at e
        rw [← HXd.out, ← HYd.out] at e
        show _ ∧ _
        rw [HX.out, HY.out]
        exact div_fin e hp0 (by rw [HYd.out]; exact hp1) hd0 hy
      have hre : Reads wr (some ⟨G, 0, none⟩) U := by have := hbr.reads U.length; rwa [List.take_length] at this
      clear hrz HV hbr
      go_wp2_with fail
      refine (rpartV _ HP hd0 hd1 (by omega)).mono ?_
      rintro e w7 ⟨c7, n7, cc7, rfl, H7, hb7⟩
      replace hre := hre.below hb7
      rw [HE.out.2] at H7
      have HT7 : Below w0.heap.size w0 w7 := bel_tr (bel_tr HT (by rw [HG.out] at hbel; exact hbel)) hb7
      have hs7 := HT7.size
      clear HP hbel hb7 HT
      obtain ⟨D, hD⟩ : ∃ D, p % d = D := ⟨_, rfl⟩
      rw [hD]
      clear hD
      go_wp2_with fail
      refine (numberL U _ HU.out.symm (Nat.le_refl _) (by omega) hre HUh.out 20000001 (by omega)).mono ?_
      rintro e wA ⟨c1, n1, d1, rfl, G1, hbA⟩
      replace H7 := H7.below hbA
      have hsA := hbA.size
      clear hre
      go_wp2_with fail
      refine (numberV _ H7 (by omega)).mono ?_
      rintro e wB ⟨c2, n2, d2, rfl, G2, hbB⟩
      have G1' := (G1.below hbB).mono (B' := w0.heap.size) (by omega)
      have G2' := G2.mono (B' := w0.heap.size) (by omega)
      rw [HE.out.1] at G1'
      have HB2 := bel_tr HT7 (bel_tr hbA hbB)
      clear G1 G2 hbA hbB HT7 H7
      go_wp2
      go_ret2
      exact ⟨_, _, _, _, _, _, rfl, G1', G2', HB2⟩
    · obtain ⟨j, rfl⟩ : ∃ j, k = j + 1 := ⟨k - 1, by omega⟩
      have hj : j < xn' := by omega
      have hjn : (j : Int) < (xn' : Int) := by omega
      obtain ⟨x0, x1⟩ := hz.at j
      obtain ⟨b1, o1, rfl, hc1⟩ := hrz.at (by have := Z1.out; omega)
      have h1 := hc1 j (by have := Z1.out; omega)
      have hb1' : b1 < G := by rw [HG.out]; simpa using World.block_lt_of_cell? _ _ h1
      have hcx : wr.cell? ⟨b1, o1 + j, none⟩ = some (.int .u64 (lm zs j)) := by rw [hbel.cell (p := ⟨b1, o1 + j, none⟩) (by exact hb1')]; exact h1
      clear hrz hc1 h1
      have HBR : Hid (Blk wr G U) := hbr
      have hGl := hbr.lt
      obtain ⟨rs, r1, r2, hrr, hrh, r5, r6, _⟩ := HP
      have R1 : Hid (rn = rs.length) := r1
      have R5 : Hid (valH rs = p) := r5
      have HRH : Hid (AllH rs) := hrh
      clear r1 r5 hbr hrh
      obtain ⟨z, hzj⟩ : ∃ z, lm zs j = z := ⟨_, rfl⟩
      have HZJ : Hid (lm zs j = z) := hzj
      rw [hzj] at hcx x0 x1
      clear hzj
      have hown0 : OwnV (wr.alloc (.cells #[Value.int .u64 z] 24)) wr.heap.size (.slice (some ⟨wr.heap.size, 0, none⟩) 1 1) [z] := own_new1 wr z
      have hrr0 : Reads (wr.alloc (.cells #[Value.int .u64 z] 24)) ra rs := hrr.below ((Below.refl _ _).alloc (Nat.le_refl _) _)
      have hB0 : Below wr.heap.size wr (wr.alloc (.cells #[Value.int .u64 z] 24)) := (Below.refl _ _).alloc (Nat.le_refl _) _
      clear hrr
      go_wp2_with (at_builtin; refine wpList_appendL 22 Tryd.underlying22 _ rfl _ _ rfl wr.heap.size (.slice (some ⟨wr.heap.size, 0, none⟩) 1 1) [z] rfl hown0 ra rn rc rs rfl R1.out hrr0 (by simp; omega) (by simp) ?_)
      intro va w8 hown8 hgrow8
      have hbel8 : Below wr.heap.size wr w8 := hB0.trans (grown_below hgrow8 (by simp) (fun q hq => by simp [Value.ownBlock] at hq; omega))
      have LZ : Hid (([z] ++ rs).length = rn + 1) := by show _ = _; rw [R1.out]; simp
      obtain ⟨va', vc', rfl⟩ := own_form hown8 LZ.out
      have haw : Away va' G := fun q hq => by
        subst hq
        have := (hown8.lt q.block (by simp [Value.ownBlock])).1
        omega
      obtain ⟨g1, g2, g3⟩ := hown8.reads
      clear hown0 hrr0 hgrow8 hown8 hB0 g1 hcx
      go_wp2_with fail
      refine (rcut_any va' (rn + 1) vc' ([z] ++ rs) w8 LZ.out.symm g2 (by omega) g3).mono ?_
      rintro e wsame ⟨rfl, rfl⟩
      have hle : tlen ([z] ++ rs) ≤ ([z] ++ rs).length := tl_le _ _
      rw [LZ.out] at hle
      have H9 := HNum.of_trim (hs := [z] ++ rs) (S := 20000002) (cap := vc') g3 (Nat.le_trans hle g2) (AllH.append (fun u hu => by simp at hu; subst hu; exact ⟨x0, x1⟩) HRH.out) (Nat.le_trans hle (by omega))
      have EV : Hid (valH ([z] ++ rs) = p * 4294967296 + z) := by show valH (z :: rs) = _; rw [valH_cons, R5.out, Int.mul_comm]; omega
      rw [EV.out] at H9
      have hbelY : Below G w w8 := hbel.trans (hbel8.mono (by omega))
      have HY8 := H6.below (w' := w8) (by rw [HG.out] at hbelY; exact hbelY)
      obtain ⟨tn, htn⟩ : ∃ tn, tlen ([z] ++ rs) = tn := ⟨_, rfl⟩
      rw [htn] at H9 hle
      rw [htn]
      clear htn
      have hp2 : p * 4294967296 + z < Y * 4294967296 := by omega
      obtain ⟨r, hr⟩ : ∃ r, p * 4294967296 + z = r := ⟨_, rfl⟩
      have HR : Hid (r = p * 4294967296 + z) := hr.symm
      rw [hr] at H9 hp2
      clear g2 g3 hr EV
      go_wp2_with fail
      refine (rguessV _ H9 HY8 (by omega) (by omega) hY0 hp2).mono ?_
      rintro e w9 ⟨dq, rfl, dq0, dq1, hq1, hq2, hb9⟩
      have hB9 : Below wr.heap.size wr w9 := bel_tr hbel8 hb9
      have hbr9 := HBR.out.below hB9 hGl
      have hL9 : Below G w w9 := hbel.trans (hB9.mono (by omega))
      replace H9 := H9.below hb9
      have hcu := hbr9.cell (i := j) (by rw [HU.out]; exact hj)
      have hfu := hbr9.frozen j
      have hB10 := hbr9.set j dq
      have hL10 := hL9.setCell (p := ⟨G, j, none⟩) (Nat.le_refl _) (.int .u64 dq)
      have hO10 := (Off.refl G w9).set j (.int .u64 dq)
      have H10 := H9.off hO10 haw
      have HU2 : Hid ((U.set j dq).length = xn') := by show _ = _; rw [List.length_set, HU.out]
      have HA2 : Hid (AllH (U.set j dq)) := HUh.out.set _ _ ⟨dq0, dq1⟩
      have HZ2 : Hid (∀ i, i < j → lm (U.set j dq) i = 0) := fun i hi => by rw [lm_set, if_neg (by omega)]; exact HZ.out i (by omega)
      have HRR : Hid (r = dq * Y + (r - dq * Y)) := by show _ = _; omega
      have HV2 : Hid (valH zs - vH zs j = vH (U.set j dq) xn' * Y + (r - dq * Y) * pwH j) := by
        show _ = _
        rw [vH_set _ hj (by rw [HU.out]; exact hj), HZ.out j (by omega), Int.sub_zero]
        have e := HV.out
        rw [pwH_succ] at e
        have e2 := part_step (x := lm zs j) e (by rw [HZJ.out]; exact HR.out) HRR.out
        rw [← e2, vH_top]
        omega
      have HY10 := H6.below (w' := w9.setCell ⟨G, j, none⟩ (.int .u64 dq)) (hL10.mono (by have := HG.out; omega))
      have hcq := hB10.cell (i := j) (by rw [HU2.out]; exact hj)
      rw [lm_set, if_pos ⟨rfl, by rw [HU.out]; exact hj⟩] at hcq
      have hr0 : 0 ≤ r - dq * Y := by omega
      have hr1 : r - dq * Y < Y := by rw [Int.add_mul] at hq2; omega
      have HQ1 : Hid (dq * Y ≤ r) := hq1
      clear hbel8 hbelY HY8 hb9 hB9 hbr9 hL9 H9 HBR hbel hO10 HR hp2 hq1 hq2 hle haw
      go_wp2_with fail
      refine (rtimesV _ HY10 dq0 dq1 (by omega)).mono ?_
      rintro e w11 ⟨tb, tn', tc, rfl, H11, hb11⟩
      replace H10 := H10.below hb11
      have hB11 := hB10.below hb11 hB10.lt
      have hL11 : Below G w w11 := hL10.trans (hb11.mono (by have := hB10.lt; omega))
      clear HY10 hB10 hL10 hb11 hcq hcu hfu
      go_wp2_with fail
      refine (minusV _ H10 H11 (by omega) (by omega) (by rw [Int.mul_comm]; exact HQ1.out)).mono ?_
      rintro e w12 ⟨mb, mn, mc, rfl, H12, hb12⟩
      have hB12 := hB11.below hb12 hB11.lt
      have hL12 : Below G w w12 := hL11.trans (hb12.mono (by have := hB11.lt; omega))
      rw [Int.mul_comm Y dq] at H12
      have H13 := H12.shrink (m := 20000001) (Int.lt_trans hr1 hpY.out)
      clear H10 H11 hB11 hL11 hb12 H12
      generalize r - dq * Y = p' at *
      go_wp2
      go_roundw
      case rel => exact ⟨j, _, p', mb, mn, mc, by omega, by go_num, rfl, H13, hr0, hr1, hB12, HU2.out, HA2.out, HZ2.out, HV2.out, hL12⟩
      case measure => simp [intOf]

/-- The document's quotient and rest. -/
theorem rdivV {a b : Option Addr} {na nb ca cb : Nat} {x y : Int} {S R : Nat} (w : World) (ha : Num w a na ca x S) (hb : Num w b nb cb y R) (hS : S ≤ 10000000) (hR : R ≤ 10000000) (hy : 0 < y) :
    Calls Tryd.prog 37 #[.slice a na ca, .slice b nb cb] w fun e w' => ∃ c n cc c' n' cc', e = .returned (.tuple #[.slice c n cc, .slice c' n' cc']) ∧ Got w' w.heap.size (.slice c n cc) (x / y) 20000001 ∧ Got w' w.heap.size (.slice c' n' cc') (x % y) 20000001 ∧ Below w.heap.size w w' := by
  obtain ⟨xs, h1, h2, h4, h5, rfl, h3⟩ := ha
  obtain ⟨ys, k1, k2, k4, k5, rfl, k3⟩ := hb
  rcases u1 : ufit xs <;> rcases u2 : ufit ys
  · exact rdivL_ff xs ys w h1 h2 (by omega) h4 h5 k1 k2 (by omega) k4 k5 hy u1 u2
  · exact rdivL_ft xs ys w h1 h2 (by omega) h4 h5 k1 k2 (by omega) k4 k5 hy u1 u2
  · exact rdivL_tf xs ys w h1 h2 (by omega) h4 h5 k1 k2 (by omega) k4 k5 hy u1 u2
  · refine (rdivW xs ys w h1 h2 (by omega) h4 h5 k1 k2 (by omega) k4 k5 hy u1 u2).mono ?_
    rintro e w' ⟨c, n, cc, c', n', cc', rfl, G1, G2, hb⟩
    exact ⟨c, n, cc, c', n', cc', rfl, G1.le (by omega), G2.le (by omega), hb⟩
end Go.Proofs.YtogdpgfccbohnaaDoor

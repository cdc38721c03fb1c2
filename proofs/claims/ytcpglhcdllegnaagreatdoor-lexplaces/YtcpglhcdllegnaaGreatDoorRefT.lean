import Derived.Test.YtcpglhcdllegnaaGreatDoorRefAll
import Derived.Laws.AppendOwnNone
namespace Go.Proofs.YtcpglhcdllegnaaGreatDoor
open Go.RowKit

theorem dig_times {A F x c P d p : Int} (h : F + c * P = A * d) (hp : x * d = p) : F + (p + c) % 4294967296 * P + (p + c) / 4294967296 * (P * 4294967296) = (A + x * P) * d := by
  rw [Int.add_assoc, mod_mulH, Int.add_mul, Int.add_mul, ← hp, Int.mul_right_comm x d P]; omega

set_option maxHeartbeats 4000000 in
/-- Half limbs times one half limb. -/
theorem rtimesV {a : Option Addr} {na ca : Nat} {x d : Int} {S : Nat} (w : World) (ha : HNum w a na ca x S) (hd0 : 0 ≤ d) (hd1 : d < 4294967296) (hS : S ≤ 100000000) :
    Calls Tryz.prog 134 #[.slice a na ca, .int .u64 d] w fun e w' => ∃ c n cc, e = .returned (.slice c n cc) ∧ HNum w' c n cc (x * d) (S + 1) ∧ Below w.heap.size w w' := by
  obtain ⟨xs, a1, a2, hra, hx, a5, a6, _⟩ := ha
  have Hna : Hid (na = xs.length) := a1
  have HX5 : Hid (valH xs = x) := a5
  clear a1 a5
  go_enter Tryz.func134, Tryz.ntmps134
  go_wp2
  go_loopw [5, 6, 7] (fun v s i wr => ∃ (k : Nat) (F : List Int) (c : Int), k ≤ na + 1 ∧ i = .int .i64 k ∧ s = .int .u64 c ∧ OwnV wr w.heap.size v F ∧ F.length = k ∧ AllH F ∧ 0 ≤ c ∧ c < 4294967296 ∧ (k = na + 1 → c = 0) ∧ vH F k + c * pwH k = vH xs k * d ∧ Below w.heap.size w wr) (fun _ _ i _ => na + 1 - (intOf i).toNat)
  case atStart => exact ⟨0, [], 0, by omega, rfl, rfl, OwnV.nil _ _, rfl, AllH.nil, by omega, by omega, fun _ => rfl, by simp [vH], Below.refl _ _⟩
  case round =>
    obtain ⟨k, F, c, hk, rfl, rfl, hown, hF, hFh, hc0, hc1, hcM, hV, hbel⟩ := hrel
    have HF : Hid (F.length = k) := hF
    have HFh : Hid (AllH F) := hFh
    have HV : Hid (vH F k + c * pwH k = vH xs k * d) := hV
    clear hF hV hFh
    obtain ⟨x0, x1⟩ := hx.at k
    have hsz := hbel.size
    have hrow : ∀ q, u5.ownBlock = some q → w.heap.size ≤ q := fun q hq => (hown.lt q hq).1
    have x2 := mul_bdH x0 x1 hd0 hd1
    have hz : na ≤ k → lm xs k * d = 0 := fun h => by rw [lm_ge (by have := Hna.out; omega)]; simp
    have hdone : k < na ∨ lm xs k * d + c < 4294967296 := by
      rcases Nat.lt_or_ge k na with h | h
      · exact .inl h
      · have := hz h; right; omega
    have D0 : Hid (vH (F ++ [(lm xs k * d + c) % 4294967296]) (k + 1) + (lm xs k * d + c) / 4294967296 * pwH (k + 1) = vH xs (k + 1) * d) := by
      show _ = _
      rw [vH_app _ HF.out, pwH_succ]; exact dig_times HV.out rfl
    clear hz
    by_cases hgo : k < na ∨ 0 < c
    · have hkM : k ≠ na + 1 := fun h => by have := hcM h; omega
      have hkb : (decide ((k : Int) < (na : Int)) || decide (0 < c)) = true := by
        rcases hgo with h | h
        · have : (k : Int) < (na : Int) := by omega
          simp [this]
        · simp [h]
      have step : Calls Tryz.prog 121 #[.slice a na ca, .int .i64 k] wr fun e w' => e = .returned (.int .u64 (lm xs k)) ∧ wr = w' := at_any a na ca xs k wr Hna.out (by omega) (hra.below hbel)
      clear hra
      by_cases hlt : k < na
      · have hkl : (k : Int) < (na : Int) := by omega
        go_wp2_with fail
        refine step.mono ?_
        rintro e w1 ⟨rfl, rfl⟩
        clear step
        obtain ⟨p, hp⟩ : ∃ p, lm xs k * d = p := ⟨_, rfl⟩
        rw [hp] at x2 D0 hdone
        generalize lm xs k = X at *
        have T1 : (p + c).tmod 4294967296 = (p + c) % 4294967296 := Int.tmod_eq_emod_of_nonneg (by omega)
        have T2 : IntKind.u64.wrap ((p + c).tdiv 4294967296) = (p + c) / 4294967296 := by rw [Int.tdiv_eq_ediv_of_nonneg (by omega), IntKind.wrap_u64]; omega
        go_wp2_with (at_builtin; refine wpList_append1 43 Tryz.underlying43 _ rfl _ _ rfl w.heap.size u5 F k HF rfl (hown.alloc _) wr.heap.size _ ((p + c) % 4294967296) rfl (cell_new1 rfl) (by omega) (by simp; omega) (wr.heap.size + 1) (by simp) ?_)
        intro g cap1 w1 hown1 hgrow _ _
        have hbel1 : Below w.heap.size w w1 := hbel.trans (((Below.refl _ _).alloc (by omega) _).trans (grown_below hgrow (by simp; omega) hrow))
        clear hgrow hown
        go_wp2
        go_roundw
        case rel => exact ⟨k + 1, _, (p + c) / 4294967296, by omega, by go_num, rfl, hown1, by simp [HF.out], allH_app HFh.out (by omega) (by omega), by omega, by omega, by omega, D0.out, hbel1⟩
        case measure => simp [intOf]; omega
      · have hkl : ¬ (k : Int) < (na : Int) := by omega
        have hcc : 0 < c := by omega
        go_wp2_with fail
        refine step.mono ?_
        rintro e w1 ⟨rfl, rfl⟩
        clear step
        obtain ⟨p, hp⟩ : ∃ p, lm xs k * d = p := ⟨_, rfl⟩
        rw [hp] at x2 D0 hdone
        generalize lm xs k = X at *
        have T1 : (p + c).tmod 4294967296 = (p + c) % 4294967296 := Int.tmod_eq_emod_of_nonneg (by omega)
        have T2 : IntKind.u64.wrap ((p + c).tdiv 4294967296) = (p + c) / 4294967296 := by rw [Int.tdiv_eq_ediv_of_nonneg (by omega), IntKind.wrap_u64]; omega
        go_wp2_with (at_builtin; refine wpList_append1 43 Tryz.underlying43 _ rfl _ _ rfl w.heap.size u5 F k HF rfl (hown.alloc _) wr.heap.size _ ((p + c) % 4294967296) rfl (cell_new1 rfl) (by omega) (by simp; omega) (wr.heap.size + 1) (by simp) ?_)
        intro g cap1 w1 hown1 hgrow _ _
        have hbel1 : Below w.heap.size w w1 := hbel.trans (((Below.refl _ _).alloc (by omega) _).trans (grown_below hgrow (by simp; omega) hrow))
        clear hgrow hown
        go_wp2
        go_roundw
        case rel => exact ⟨k + 1, _, (p + c) / 4294967296, by omega, by go_num, rfl, hown1, by simp [HF.out], allH_app HFh.out (by omega) (by omega), by omega, by omega, by omega, D0.out, hbel1⟩
        case measure => simp [intOf]; omega
    · obtain rfl : c = 0 := by omega
      have hkl : ¬ (k : Int) < (na : Int) := by omega
      have HE : Hid (valH F = x * d) := by
        show _ = _
        have e := HV.out
        rw [vH_long (us := xs) (by have := Hna.out; omega), HX5.out] at e
        unfold valH; rw [HF.out]; omega
      obtain ⟨c', cc', rfl⟩ := own_form hown HF.out
      obtain ⟨h1, h2, h3⟩ := hown.reads
      have hle : tlen F ≤ F.length := tl_le _ _
      clear hra hx D0 HV h1
      go_wp2_with fail
      refine (rcut_any c' k cc' F wr HF.out.symm h2 (by omega) h3).mono ?_
      rintro e w2 ⟨rfl, rfl⟩
      rw [HF.out] at hle
      have HN := HNum.of_trim (S := S + 1) (cap := cc') h3 (by omega) HFh.out (by omega)
      rw [HE.out] at HN
      clear hown h3 h2
      go_wp2
      go_ret
      exact ⟨_, _, _, rfl, HN, hbel⟩

theorem div_spec {a b : Int} (hb : 0 < b) : a / b * b ≤ a ∧ a < (a / b + 1) * b := by
  have h1 := Int.mul_ediv_add_emod a b
  have h2 := Int.emod_nonneg a (by omega : b ≠ 0)
  have h3 := Int.emod_lt_of_pos a hb
  rw [Int.mul_comm] at h1
  rw [Int.add_mul]
  omega
theorem le_div {q a b : Int} (hb : 0 < b) (h : q * b ≤ a) : q ≤ a / b := (Int.le_ediv_iff_mul_le hb).2 h
theorem lt_of_mul {a b c : Int} (hc : 0 < c) (h : a * c < b * c) : a < b := Int.lt_of_mul_lt_mul_right h (by omega)
/-- How the guess by the topmost half limbs stands to the quotient. -/
theorem guess_ge {rs ys : List Int} {k : Nat} {r y Q : Int} (hr : AllH rs) (hy : AllH ys) (tr : tlen rs = rs.length) (ty : ys.length = k + 1) (er : valH rs = r) (ey : valH ys = y) (hT : 0 < lm ys k) (hb : r < y * 4294967296) (hQ : Q * y ≤ r) (hQ0 : 0 ≤ Q) :
    Q ≤ (lm rs (k + 1) * 4294967296 + lm rs k) / lm ys k := by
  refine le_div hT ?_
  have hyk : y = vH ys k + lm ys k * pwH k := by rw [← ey]; unfold valH; rw [ty]; rfl
  have hyl : y < pwH (k + 1) := by rw [← ey, ← ty]; exact valH_lt hy
  have hlen : rs.length ≤ k + 2 := by
    rcases Nat.lt_or_ge (k + 2) rs.length with h | h
    · have h1 := valH_ge hr (by omega)
      rw [er] at h1
      have h2 := pwH_mono (a := k + 2) (b := tlen rs - 1) (by omega)
      have h3 : pwH (k + 2) = pwH (k + 1) * 4294967296 := pwH_succ (k + 1)
      omega
    · exact h
  have e1 : r = vH rs k + lm rs k * pwH k + lm rs (k + 1) * pwH (k + 1) := by rw [← er, ← vH_long (n := k + 2) hlen]; rfl
  rw [pwH_succ] at e1
  have h1 := (vH_nn hr k).2
  have h2 := (vH_nn hy k).1
  have hP := pwH_pos k
  have h3 : Q * lm ys k * pwH k ≤ Q * y := by
    rw [hyk, Int.mul_add, Int.mul_assoc]
    have := Int.mul_nonneg hQ0 h2
    omega
  have h4 : Q * lm ys k * pwH k < (lm rs (k + 1) * 4294967296 + lm rs k + 1) * pwH k := by
    have e2 : (lm rs (k + 1) * 4294967296 + lm rs k + 1) * pwH k = lm rs (k + 1) * (pwH k * 4294967296) + lm rs k * pwH k + pwH k := by
      rw [Int.add_mul, Int.add_mul, Int.one_mul, Int.mul_assoc, Int.mul_comm 4294967296]
    omega
  have := lt_of_mul hP h4
  omega

theorem mul_eq_of {r y d Q : Int} (h2 : r < (Q + 1) * y) (hy : 0 < y) (hQ : Q ≤ d) (hc : y * d ≤ r) : Q = d := by
  have := lt_of_mul (a := d) (b := Q + 1) hy (by rw [Int.mul_comm d]; omega)
  omega
theorem mul_gt_of {r y d Q : Int} (h1 : Q * y ≤ r) (hy : 0 < y) (hc : r < y * d) : Q + 1 ≤ d := by
  have := lt_of_mul (a := Q) (b := d) hy (by rw [Int.mul_comm d]; omega)
  omega
theorem atI (a : Option Addr) (n cap : Nat) (hs : List Int) (i : Nat) (z : Int) (w : World) (hz : z = (i : Int)) (hn : n = hs.length) (hm : n ≤ 1099511627776) (hr : Reads w a hs) :
    Calls Tryz.prog 121 #[.slice a n cap, .int .i64 z] w fun e w' => e = .returned (.int .u64 (lm hs i)) ∧ w = w' := by
  subst hz; exact at_any a n cap hs i w hn hm hr

set_option maxRecDepth 100000 in
set_option maxHeartbeats 400000 in
theorem rguessV {a b : Option Addr} {na nb ca cb : Nat} {r y : Int} {S R : Nat} (w : World) (ha : HNum w a na ca r S) (hb : HNum w b nb cb y R) (hS : S ≤ 100000000) (hR : R ≤ 100000000) (hy0 : 0 < y) (hry : r < y * 4294967296) :
    Calls Tryz.prog 136 #[.slice a na ca, .slice b nb cb] w fun e w' => ∃ d : Int, e = .returned (.int .u64 d) ∧ 0 ≤ d ∧ d < 4294967296 ∧ d * y ≤ r ∧ r < (d + 1) * y ∧ Below w.heap.size w w' := by
  have HA : Hid (HNum w a na ca r S) := ha
  have HBN : Hid (HNum w b nb cb y R) := hb
  obtain ⟨rs, a1, a2, hra, hr, a5, a6, a7⟩ := ha
  obtain ⟨ys, b1, b2, hrb, hy, b5, b6, b7⟩ := hb
  have hpos : 0 < nb := by
    rcases Nat.eq_zero_or_pos nb with h | h
    · have : ys = [] := List.eq_nil_of_length_eq_zero (by omega)
      subst this; simp [valH, vH] at b5; omega
    · exact h
  obtain ⟨k, hk⟩ : ∃ k, nb = k + 1 := ⟨nb - 1, by omega⟩
  subst hk
  have hT : 0 < lm ys k := by
    have h0 := (hy.at k).1
    rcases Int.lt_or_eq_of_le h0 with h | h
    · exact h
    · exfalso
      unfold tlen at b7
      rw [← b1] at b7
      unfold tl at b7
      rw [if_pos h.symm] at b7
      have := tl_le ys k
      omega
  have hr0 : 0 ≤ r := by rw [← a5]; exact valH_nn hr
  obtain ⟨Q, hQ⟩ : ∃ Q, Q = r / y := ⟨_, rfl⟩
  have hQs := div_spec (a := r) hy0
  rw [← hQ] at hQs
  have hQ0 : 0 ≤ Q := by rw [hQ]; exact Int.ediv_nonneg hr0 (by omega)
  have hQH : Q < 4294967296 := lt_of_mul hy0 (by rw [Int.mul_comm 4294967296]; omega)
  have HG := guess_ge hr hy a7 b1.symm a5 b5 hT hry hQs.1 hQ0
  obtain ⟨t0, t1⟩ := hy.at k
  obtain ⟨h0, h1⟩ := hr.at (k + 1)
  obtain ⟨l0, l1⟩ := hr.at k
  obtain ⟨by1, o1, rfl, hc1⟩ := hrb.at (by omega)
  have hcy := hc1 k (by omega)
  have st1 := fun (z : Int) (hz : z = ((k + 1 : Nat) : Int)) => atI a na ca rs (k + 1) z w hz a1 (by omega) hra
  have st2 := fun (z : Int) (hz : z = (k : Int)) => atI a na ca rs k z w hz a1 (by omega) hra
  have HQ1 : Hid (Q * y ≤ r) := hQs.1
  have HQ2 : Hid (r < (Q + 1) * y) := hQs.2
  have hkb : k ≤ 100000000 := by omega
  clear a1 a2 a5 a6 a7 b1 b2 b5 b6 b7 hr hy hra hrb hc1 hQs hQ
  generalize lm rs (k + 1) = hi at *
  generalize lm rs k = lo at *
  generalize lm ys k = T at *
  have hTz : (T == 0) = false := by simp; omega
  obtain ⟨D, hD⟩ : ∃ D, D = (hi * 4294967296 + lo) / T := ⟨_, rfl⟩
  have hDs := Int.ediv_nonneg (a := hi * 4294967296 + lo) (b := T) (by omega) (by omega)
  have hDl := Int.ediv_le_self (b := T) (show (0 : Int) ≤ hi * 4294967296 + lo by omega)
  rw [← hD] at HG hDs hDl
  have HD : Hid (D = (hi * 4294967296 + lo) / T) := hD
  clear hD
  have T1 : IntKind.u64.wrap ((hi * 4294967296 + lo).tdiv T) = D := by rw [Int.tdiv_eq_ediv_of_nonneg (by omega), ← HD.out, IntKind.wrap_u64]; omega
  go_enter Tryz.func136, Tryz.ntmps136
  go_wp2_with fail
  refine (st1 _ (by omega)).mono ?_
  rintro e w1 ⟨rfl, rfl⟩
  go_wp2_with fail
  refine (st2 _ (by omega)).mono ?_
  rintro e w1 ⟨rfl, rfl⟩
  clear st1 st2
  clear hry
  by_cases hD4 : 4294967296 ≤ D
  · skip
    go_wp2
    go_loopw [8] (fun s wr => ∃ d : Int, s = .int .u64 d ∧ Q ≤ d ∧ d < 4294967296 ∧ Below w.heap.size w wr) (fun s _ => (intOf s).toNat)
    case atStart => exact ⟨4294967295, rfl, by omega, by omega, Below.refl _ _⟩
    case round =>
      obtain ⟨d, rfl, hd0, hd1, hbel⟩ := hrel
      have HAr := HA.out.below hbel
      have HBr := HBN.out.below hbel
      clear hcy
      go_wp2_with fail
      refine (rtimesV _ HBr (by omega) hd1 hR).mono ?_
      rintro e w1 ⟨c2, n2, cc2, rfl, H2, hb2⟩
      replace HAr := HAr.below hb2
      have hbel2 := bel_tr hbel hb2
      clear HBr hbel hb2
      go_wp2_with fail
      refine (rcmpV _ H2 HAr (by omega) (by omega)).mono ?_
      rintro e w2 ⟨c, rfl, hc, hb3⟩
      have hbel3 := bel_tr hbel2 hb3
      clear H2 HAr hbel2 hb3
      rcases hc with ⟨rfl, hc⟩ | ⟨rfl, hc⟩ | ⟨rfl, hc⟩
      · have HE := mul_eq_of HQ2.out (by omega : 0 < y) hd0 (by omega)
        have HQ3 := HQ1.out
        have HQ4 := HQ2.out
        clear hc
        subst HE
        go_wp2
        go_ret
        exact ⟨Q, rfl, by omega, hd1, HQ3, HQ4, hbel3⟩
      · have HE := mul_eq_of HQ2.out (by omega : 0 < y) hd0 (by omega)
        have HQ3 := HQ1.out
        have HQ4 := HQ2.out
        clear hc
        subst HE
        go_wp2
        go_ret
        exact ⟨Q, rfl, by omega, hd1, HQ3, HQ4, hbel3⟩
      · have HE := mul_gt_of HQ1.out (by omega : 0 < y) hc
        clear hc
        go_wp2
        go_roundw
        case rel => exact ⟨d - 1, by go_num, by omega, by omega, hbel3⟩
        case measure => simp [intOf]; omega
  · skip
    go_wp2
    go_loopw [8] (fun s wr => ∃ d : Int, s = .int .u64 d ∧ Q ≤ d ∧ d < 4294967296 ∧ Below w.heap.size w wr) (fun s _ => (intOf s).toNat)
    case atStart => exact ⟨D, rfl, by omega, by omega, Below.refl _ _⟩
    case round =>
      obtain ⟨d, rfl, hd0, hd1, hbel⟩ := hrel
      have HAr := HA.out.below hbel
      have HBr := HBN.out.below hbel
      clear hcy
      go_wp2_with fail
      refine (rtimesV _ HBr (by omega) hd1 hR).mono ?_
      rintro e w1 ⟨c2, n2, cc2, rfl, H2, hb2⟩
      replace HAr := HAr.below hb2
      have hbel2 := bel_tr hbel hb2
      clear HBr hbel hb2
      go_wp2_with fail
      refine (rcmpV _ H2 HAr (by omega) (by omega)).mono ?_
      rintro e w2 ⟨c, rfl, hc, hb3⟩
      have hbel3 := bel_tr hbel2 hb3
      clear H2 HAr hbel2 hb3
      rcases hc with ⟨rfl, hc⟩ | ⟨rfl, hc⟩ | ⟨rfl, hc⟩
      · have HE := mul_eq_of HQ2.out (by omega : 0 < y) hd0 (by omega)
        have HQ3 := HQ1.out
        have HQ4 := HQ2.out
        clear hc
        subst HE
        go_wp2
        go_ret
        exact ⟨Q, rfl, by omega, hd1, HQ3, HQ4, hbel3⟩
      · have HE := mul_eq_of HQ2.out (by omega : 0 < y) hd0 (by omega)
        have HQ3 := HQ1.out
        have HQ4 := HQ2.out
        clear hc
        subst HE
        go_wp2
        go_ret
        exact ⟨Q, rfl, by omega, hd1, HQ3, HQ4, hbel3⟩
      · have HE := mul_gt_of HQ1.out (by omega : 0 < y) hc
        clear hc
        go_wp2
        go_roundw
        case rel => exact ⟨d - 1, by go_num, by omega, by omega, hbel3⟩
        case measure => simp [intOf]; omega

/-- The upper half limbs, from k on, in their places. -/
theorem vH_top (xs : List Int) (k : Nat) : vH xs (k + 1) = vH xs k + lm xs k * pwH k := rfl
theorem part_step {X Q rest d T P x t q : Int} (h : T = Q * d + rest * (P * 4294967296)) (ht : t = rest * 4294967296 + x) (hq : t = q * d + X) : T + x * P = (Q + q * P) * d + X * P := by
  have e1 : rest * (P * 4294967296) + x * P = t * P := by rw [ht, Int.add_mul, Int.mul_comm P, Int.mul_assoc]
  have e2 : t * P = q * P * d + X * P := by rw [hq, Int.add_mul, Int.mul_right_comm]
  rw [Int.add_mul]
  omega

set_option maxRecDepth 100000 in
set_option maxHeartbeats 1000000 in
/-- Half limbs divided by one half limb. -/
theorem rpartV {a : Option Addr} {na ca : Nat} {x d : Int} {S : Nat} (w : World) (ha : HNum w a na ca x S) (hd0 : 0 < d) (hd1 : d < 4294967296) (hS : S ≤ 100000000) :
    Calls Tryz.prog 138 #[.slice a na ca, .int .u64 d] w fun e w' => ∃ c n cc, e = .returned (.tuple #[.slice c n cc, .int .u64 (x % d)]) ∧ HNum w' c n cc (x / d) S ∧ Below w.heap.size w w' := by
  obtain ⟨xs, a1, a2, hra, hx, a5, a6, _⟩ := ha
  have Hna : Hid (na = xs.length) := a1
  have HX5 : Hid (valH xs = x) := a5
  clear a1 a5
  go_enter Tryz.func138, Tryz.ntmps138
  go_wp2_with (at_make; refine wpList_makeH _ rfl _ _ rfl _ _ na rfl rfl (by omega) (by omega) (by omega) ?_)
  intro wm hbm hbelm
  obtain ⟨G, hG⟩ : ∃ G, G = w.heap.size := ⟨_, rfl⟩
  have HG : Hid (G = w.heap.size) := hG
  rw [← hG] at hbm hbelm
  rw [← hG]
  clear hG
  go_wp2
  go_loopw [7, 8] (fun s t wr => ∃ (k : Nat) (U : List Int) (r : Int), k ≤ na ∧ t = .int .i64 ((k : Int) - 1) ∧ s = .int .u64 r ∧ Blk wr G U ∧ U.length = na ∧ AllH U ∧ (∀ j, j < k → lm U j = 0) ∧ 0 ≤ r ∧ r < d ∧ valH xs - vH xs k = vH U na * d + r * pwH k ∧ Below G w wr) (fun _ t _ => ((intOf t) + 1).toNat)
  case atStart => exact ⟨na, _, 0, Nat.le_refl _, rfl, rfl, hbm, by simp, AllH.replicate _, fun j _ => lm_replicate _ _, by omega, by omega, by rw [vH_long (us := xs) (by have := Hna.out; omega), vH_congr (us := List.replicate na 0) (vs := []) (fun j _ => by rw [lm_replicate, lm_ge (by simp)]), vH_long (us := []) (by simp)]; simp [vH, valH], hbelm⟩
  case round =>
    clear hbm hbelm
    obtain ⟨k, U, r, hk, rfl, rfl, hbr, hU, hUh, hz, hr0, hr1, hV, hbel⟩ := hrel
    have HU : Hid (U.length = na) := hU
    have HUh : Hid (AllH U) := hUh
    have HV : Hid (valH xs - vH xs k = vH U na * d + r * pwH k) := hV
    have HZ : Hid (∀ j, j < k → lm U j = 0) := hz
    clear hU hUh hV hz
    by_cases hk0 : k = 0
    · subst hk0
      have hle : tlen U ≤ U.length := tl_le _ _
      have HE : Hid (x = valH U * d + r) := by
        show _ = _
        have e := HV.out
        have e2 : vH U na = valH U := by unfold valH; rw [HU.out]
        rw [e2, HX5.out] at e
        simp [vH, pwH] at e
        omega
      have hUn := valH_nn HUh.out
      have E1 : Hid (x / d = valH U) := by
        show _ = _
        rw [HE.out, Int.add_comm, Int.add_mul_ediv_right _ _ (by omega), Int.ediv_eq_zero_of_lt hr0 hr1]; omega
      have E2 : Hid (r = x % d) := by
        show _ = _
        rw [HE.out, Int.add_comm, Int.add_mul_emod_self_right, Int.emod_eq_of_lt hr0 hr1]
      have hre : Reads wr (some ⟨G, 0, none⟩) U := by have := hbr.reads U.length; rwa [List.take_length] at this
      have HN := HNum.of_trim (S := S) (cap := na) hre (by rw [HU.out] at hle; exact hle) HUh.out (by rw [HU.out] at hle; omega)
      have e3 := E2.out
      clear hbr hra HV HE E2
      subst e3
      go_wp2_with fail
      refine (rcut_any (some ⟨G, 0, none⟩) na na U wr HU.out.symm (Nat.le_refl _) (by omega) hre).mono ?_
      rintro e w2 ⟨rfl, rfl⟩
      rw [← E1.out] at HN
      rw [HG.out] at hbel
      clear hre
      go_wp2
      go_ret2
      exact ⟨_, _, _, rfl, HN, hbel⟩
    · obtain ⟨j, rfl⟩ : ∃ j, k = j + 1 := ⟨k - 1, by omega⟩
      have hj : j < na := by omega
      obtain ⟨x0, x1⟩ := hx.at j
      obtain ⟨b1, o1, rfl, hc1⟩ := hra.at (by have := Hna.out; omega)
      have h1 := hc1 j (by have := Hna.out; omega)
      have hb1' : b1 < G := by rw [HG.out]; simpa using World.block_lt_of_cell? _ _ h1
      have hcx : wr.cell? ⟨b1, o1 + j, none⟩ = some (.int .u64 (lm xs j)) := by rw [hbel.cell (p := ⟨b1, o1 + j, none⟩) (by exact hb1')]; exact h1
      have hcu := hbr.cell (i := j) (by rw [HU.out]; exact hj)
      have hfu := hbr.frozen j
      have hjn : (j : Int) < (na : Int) := by omega
      clear hra hc1 h1
      obtain ⟨t, ht⟩ : ∃ t, t = r * 4294967296 + lm xs j := ⟨_, rfl⟩
      have HT : Hid (t = r * 4294967296 + lm xs j) := ht
      have ht0 : 0 ≤ t := by omega
      have ht1 : t < d * 4294967296 := by omega
      have q0 := Int.ediv_nonneg ht0 (by omega : 0 ≤ d)
      have q1 : t / d < 4294967296 := Int.ediv_lt_of_lt_mul hd0 (by rw [Int.mul_comm]; exact ht1)
      have m0 := Int.emod_nonneg t (by omega : d ≠ 0)
      have m1 := Int.emod_lt_of_pos t hd0
      have HQ : Hid (t = t / d * d + t % d) := by show _ = _; rw [Int.mul_comm]; exact (Int.mul_ediv_add_emod t d).symm
      have T0 : IntKind.u64.wrap (r * 4294967296 + lm xs j) = t := by rw [← ht, IntKind.wrap_u64]; omega
      have T1 : IntKind.u64.wrap (t.tdiv d) = t / d := by rw [Int.tdiv_eq_ediv_of_nonneg ht0, IntKind.wrap_u64]; omega
      have T2 : t.tmod d = t % d := Int.tmod_eq_emod_of_nonneg ht0
      have hdz : (d == 0) = false := beq_eq_false_iff_ne.2 (by omega)
      clear ht
      have hB2 := hbr.set j (t / d)
      have HL2 := hbel.setCell (p := ⟨G, j, none⟩) (Nat.le_refl _) (.int .u64 (t / d))
      have HU2 : Hid ((U.set j (t / d)).length = na) := by show _ = _; rw [List.length_set, HU.out]
      have HA2 : Hid (AllH (U.set j (t / d))) := HUh.out.set _ _ ⟨q0, q1⟩
      have HZ2 : Hid (∀ i, i < j → lm (U.set j (t / d)) i = 0) := fun i hi => by rw [lm_set, if_neg (by omega)]; exact HZ.out i (by omega)
      have HV2 : Hid (valH xs - vH xs j = vH (U.set j (t / d)) na * d + t % d * pwH j) := by
        show _ = _
        rw [vH_set _ hj (by rw [HU.out]; exact hj), HZ.out j (by omega), Int.sub_zero]
        have e := HV.out
        rw [pwH_succ] at e
        have e2 := part_step e HT.out HQ.out
        rw [← e2, vH_top]
        omega
      clear hbr hbel
      generalize t / d = q at *
      generalize t % d = m at *
      go_wp2
      go_roundw
      case rel => exact ⟨j, _, m, by omega, by go_num, rfl, hB2, HU2.out, HA2.out, HZ2.out, m0, m1, HV2.out, HL2⟩
      case measure => simp [intOf]

theorem run_append_none0 {P : Program} {w : World} (base : Nat) (t ty e : TypeId) (i : TypeInfo) (size : Nat) (ht : P.underlying t = some (.slice e)) (hi : P.info? e = some i)
    (v : Value) (n : Nat) (xs : List Value) (hown : w.ownsRow base e size v n xs) (c : Nat) :
    (Builtin.append_ #[t, t] ty #[v, .slice none 0 c]).run P w = .ok v w := by
  have h := run_append_owned_none (P := P) (w := w) base t ty e i size ht hi v n xs hown
  rw [← h]
  rfl
theorem wpList_append_none0 {P : Program} {w : World} {ops : Array Oper} {rest : List Oper} {o : Oper} {a : Act} {Q : Exit → Act → World → Prop} (hgd : o.guard = none) (s x : Operand) (t : TypeId)
    (ho : o.op = .call { callee := .builtin .append, args := #[s, x], argTypes := #[t, t] })
    (base : Nat) (e : TypeId) (i : TypeInfo) (size : Nat) (ht : P.underlying t = some (.slice e)) (hi : P.info? e = some i)
    (v : Value) (n : Nat) (xs : List Value) (hs : a.eval s = v) (hown : w.ownsRow base e size v n xs) (c : Nat) (hx : a.eval x = .slice none 0 c)
    (h : wpList P ops Q rest (a.put o.dst v) w) : wpList P ops Q (o :: rest) a w := by
  refine wpList_plain hgd fun K hK => ?_
  have hrun := run_append_none0 (P := P) (w := w) base t o.type e i size ht hi v n xs hown c
  unfold Oper.wp
  simp [execOp, ho, resolve, invoke, builtin, hs, hx, hrun, Result.andThen]
  exact hK _ _ h

/-- 'append(v, s...)' at a plain region: v one's own, s read from wherever it lies. -/
theorem wpList_appendL (t : TypeId) (ht : Tryz.prog.underlying t = some (.slice 134)) (w : World) {ops : Array Oper} {rest : List Oper} {o : Oper} {a : Act} {Q : Exit → Act → World → Prop} (hgd : o.guard = none) (s x : Operand)
    (ho : o.op = .call { callee := .builtin .append, args := #[s, x], argTypes := #[t, t] }) (B : Nat) (v : Value) (xs : List Int) (hs : a.eval s = v) (hown : OwnV w B v xs) (p : Option Addr) (m c : Nat) (ys : List Int) (hx : a.eval x = .slice p m c)
    (hm : m = ys.length) (hr : Reads w p ys) (hlen : xs.length + m ≤ 1000000000000) (hB : B ≤ w.heap.size)
    (hK : ∀ v' w', OwnV w' B v' (xs ++ ys) → w.grownBy w' v.ownBlock → wpList Tryz.prog ops Q rest (a.put o.dst v') w') :
    wpList Tryz.prog ops Q (o :: rest) a w := by
  subst hm
  obtain ⟨i0, hi, hz0, hz1, hz2⟩ := info_parts Tryz.infoU64
  have own' : ∀ v' w', w'.ownsRow B 134 1 v' (xs.length + ys.length) (xs.map (Value.int .u64) ++ ys.map (Value.int .u64)) → w.grownBy w' v.ownBlock → wpList Tryz.prog ops Q rest (a.put o.dst v') w' := fun v' w' h1 h2 => hK v' w' (by unfold OwnV; simpa using h1) h2
  rcases p with _ | ⟨ad⟩
  · have hy : ys = [] := by rcases hr with h | ⟨b, o', h, _⟩; exact h; cases h
    subst hy
    refine wpList_append_none0 hgd s x t ho B 134 i0 1 ht hi v xs.length (xs.map (Value.int .u64)) hs hown c hx ?_
    exact hK v w (by simpa using hown) (World.grownBy.refl _ _)
  · refine wpList_append_own w hgd s x t ho B 134 i0 (.int .u64 0) 1 8 ht hi hz0 hz1 hz2 rfl (by decide) v xs.length (xs.map (Value.int .u64)) hs hown ad ys.length c (ys.map (Value.int .u64)) hx (by simp) ?_ (fun u hu => by simp only [List.mem_map] at hu; obtain ⟨x, _, rfl⟩ := hu; rfl) (by unfold maxLen; omega) (by omega) hB (fun v' w' h1 h2 _ => own' v' w' h1 h2)
    intro j u hj
    simp only [List.getElem?_map, Option.map_eq_some_iff] at hj
    obtain ⟨y, hy, rfl⟩ := hj
    have hjl : j < ys.length := (List.getElem?_eq_some_iff.1 hy).1
    rw [lm_lt hjl] at hy
    cases hy
    obtain ⟨b, o', h, hc⟩ := hr.at (by omega)
    cases h
    have := hc j hjl
    by_cases h0 : j = 0
    · subst h0; simpa [Addr.add] using this
    · simpa [Addr.add, h0] using this

theorem valH_cons (z : Int) (rs : List Int) : valH (z :: rs) = z + 4294967296 * valH rs := by
  have h : ∀ n, vH (z :: rs) (n + 1) = z + 4294967296 * vH rs n := by
    intro n
    induction n with
    | zero => simp [vH, lm, pwH]
    | succ n ih =>
      rw [vH_top, ih, vH_top, pwH_succ]
      have e : lm (z :: rs) (n + 1) = lm rs n := by simp [lm]
      rw [e, Int.mul_add, Int.add_assoc]
      congr 2
      ac_rfl
  show vH (z :: rs) (rs.length + 1) = _
  rw [h]; rfl
theorem HNum.shrink {w : World} {a : Option Addr} {n cap : Nat} {x : Int} {S m : Nat} (h : HNum w a n cap x S) (hx : x < pwH m) : HNum w a n cap x m := by
  obtain ⟨hs, h1, h2, h3, h4, h5, h6, h7⟩ := h
  refine ⟨hs, h1, h2, h3, h4, h5, ?_, h7⟩
  rcases Nat.lt_or_ge m n with h | h
  · have g := valH_ge h4 (by omega)
    have := pwH_mono (a := m) (b := tlen hs - 1) (by omega)
    omega
  · exact h

theorem rofGot (v : Int) (w : World) (h0 : 0 ≤ v) (h1 : v < 18446744073709551616) :
    Calls Tryz.prog 119 #[.int .u64 v] w fun e w' => ∃ c n cc, e = .returned (.slice c n cc) ∧ Got w' w.heap.size (.slice c n cc) v 1 ∧ Below w.heap.size w w' := by
  refine (rof_any v w h0 h1).mono ?_
  rintro e w' ⟨c, cc, rfl, ho, hb⟩
  have t1 : tlen [v] ≤ 1 := tl_le _ _
  have ev : val [v] = v := by simp [val, vS, lm, pw]
  exact ⟨c, _, cc, rfl, ⟨trimL [v], ho, NF.trimL (fun x hx => by simp at hx; subst hx; exact ⟨h0, h1⟩), by rw [val_trimL]; exact ev, by rw [length_trimL]; exact t1⟩, hb⟩
theorem uval_fit {xs : List Int} (hx : AllW xs) (h : ufit xs = true) : uval xs = val xs ∧ 0 ≤ val xs ∧ val xs < 18446744073709551616 := by
  have h1 : tlen xs ≤ 1 := by simpa [ufit] using h
  have h2 := val_lt_tlen hx
  have h3 := val_nn hx
  have h4 := pw_mono h1
  have h5 : pw 1 = 18446744073709551616 := by simp [pw]
  refine ⟨?_, h3, by omega⟩
  unfold uval
  split
  · rename_i h6
    have h7 := vS_trim xs
    rw [h6] at h7
    rw [← h7]
    simp [vS, pw]
  · rename_i h6
    rw [(tlen_zero hx).1 (by omega)]
theorem uval_far {xs : List Int} (h : ufit xs = false) : uval xs = 0 := by
  have h1 : ¬ tlen xs ≤ 1 := by simpa [ufit] using h
  unfold uval; rw [if_neg (by omega)]

set_option maxRecDepth 100000 in
set_option maxHeartbeats 1000000 in
/-- The document's quotient and rest, of words. -/
theorem rdivW {a b : Option Addr} {na nb ca cb : Nat} (xs ys : List Int) (w : World) (h1 : na = xs.length) (h2 : na ≤ ca) (h3 : na ≤ 10000000) (h4 : Reads w a xs) (h5 : AllW xs) (k1 : nb = ys.length) (k2 : nb ≤ cb) (k3 : nb ≤ 10000000) (k4 : Reads w b ys) (k5 : AllW ys) (hy : 0 < val ys) (u1 : ufit xs = true) (u2 : ufit ys = true) :
    Calls Tryz.prog 109 #[.slice a na ca, .slice b nb cb] w fun e w' => ∃ c n cc c' n' cc', e = .returned (.tuple #[.slice c n cc, .slice c' n' cc']) ∧ Got w' w.heap.size (.slice c n cc) (val xs / val ys) 1 ∧ Got w' w.heap.size (.slice c' n' cc') (val xs % val ys) 1 ∧ Below w.heap.size w w' := by
  obtain ⟨e1, x0, x1⟩ := uval_fit h5 u1
  obtain ⟨e2, y0, y1⟩ := uval_fit k5 u2
  have E1 : Hid (uval xs = val xs) := e1
  have E2 : Hid (uval ys = val ys) := e2
  have U1 : Hid (ufit xs = true) := u1
  have U2 : Hid (ufit ys = true) := u2
  have H1 : Hid (na = xs.length) := h1
  have K1 : Hid (nb = ys.length) := k1
  clear e1 e2 u1 u2 h1 k1
  go_enter Tryz.func109, Tryz.ntmps109
  go_wp2_with fail
  refine (ruint64_any a na ca xs _ H1.out h2 (by omega) h4 h5).mono ?_
  rintro e w1 ⟨rfl, hb1⟩
  have k4' := k4.below hb1
  go_wp2_with fail
  refine (ruint64_any b nb cb ys _ K1.out k2 (by omega) k4' k5).mono ?_
  rintro e w2 ⟨rfl, hb2⟩
  have HB := bel_tr hb1 hb2
  rw [U1.out, U2.out, E1.out, E2.out]
  clear h2 h3 h4 h5 k2 k3 k4 k5 k4' hb1 hb2 E1 E2 U1 U2 H1 K1
  obtain ⟨x, hx⟩ : ∃ x, val xs = x := ⟨_, rfl⟩
  obtain ⟨y, hy'⟩ : ∃ y, val ys = y := ⟨_, rfl⟩
  have HX : Hid (val xs = x) := hx
  have HY : Hid (val ys = y) := hy'
  rw [hx] at x0 x1
  rw [hy'] at hy y0 y1
  rw [hx, hy']
  clear hx hy'
  have hyz : (y == 0) = false := beq_eq_false_iff_ne.2 (by omega)
  have q0 := Int.ediv_nonneg x0 y0
  have q1 := Int.ediv_le_self y x0
  have m0 := Int.emod_nonneg x (by omega : y ≠ 0)
  have m1 := Int.emod_lt_of_pos x hy
  obtain ⟨q, hq⟩ : ∃ q, x / y = q := ⟨_, rfl⟩
  obtain ⟨r, hr⟩ : ∃ r, x % y = r := ⟨_, rfl⟩
  rw [hq] at q0 q1
  rw [hr] at m0 m1
  have T1 : IntKind.u64.wrap (x.tdiv y) = q := by rw [Int.tdiv_eq_ediv_of_nonneg x0, hq, IntKind.wrap_u64]; omega
  have T2 : x.tmod y = r := by rw [Int.tmod_eq_emod_of_nonneg x0, hr]
  have HQ : Hid (val xs / val ys = q) := by show _ = _; rw [HX.out, HY.out, hq]
  have HR : Hid (val xs % val ys = r) := by show _ = _; rw [HX.out, HY.out, hr]
  have hsz := HB.size
  have hyne : ¬ y = 0 := by omega
  clear hq hr
  go_wp2_with fail
  go_region_held3 (fun w' => True)
    (trivial)
    ((first
      | (go_at_call 119; go_fit (rofGot q _ q0 (by omega)); rintro e wA ⟨c1, n1, d1, rfl, G1, hbA⟩)
      | (go_at_call 119; go_fit (rofGot r _ m0 (by omega)); rintro e wB ⟨c2, n2, d2, rfl, G2, hbB⟩)))
  have G1' := (G1.below hbB).mono (B' := w.heap.size) (by simp; omega)
  have hsA := hbA.size
  have G2' := G2.mono (B' := w.heap.size) (by simp at hsA; omega)
  rw [← HQ.out] at G1'
  rw [← HR.out] at G2'
  have HB2 := bel_tr (bel_tr HB (belN (Below.refl _ _) 1)) (bel_tr hbA hbB)
  clear G1 G2 hbA hbB HB
  go_wp2
  go_ret2
  exact ⟨_, _, _, _, _, _, rfl, G1', G2', HB2⟩
end Go.Proofs.YtcpglhcdllegnaaGreatDoor

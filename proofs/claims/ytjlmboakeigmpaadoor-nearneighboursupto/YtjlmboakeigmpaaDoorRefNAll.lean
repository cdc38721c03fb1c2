import Derived.Test.YtjlmboakeigmpaaDoorRefAll
import Derived.Laws.AppendOwnNone
import Derived.Test.YtjlmboakeigmpaaDoorGcdAll
namespace Go.Proofs.YtjlmboakeigmpaaDoor
open Go.RowKit

theorem dig_times {A F x c P d p : Int} (h : F + c * P = A * d) (hp : x * d = p) : F + (p + c) % 4294967296 * P + (p + c) / 4294967296 * (P * 4294967296) = (A + x * P) * d := by
  rw [Int.add_assoc, mod_mulH, Int.add_mul, Int.add_mul, ← hp, Int.mul_right_comm x d P]; omega

set_option maxHeartbeats 4000000 in
/-- Half limbs times one half limb. -/
theorem rtimesV {a : Option Addr} {na ca : Nat} {x d : Int} {S : Nat} (w : World) (ha : HNum w a na ca x S) (hd0 : 0 ≤ d) (hd1 : d < 4294967296) (hS : S ≤ 100000000) :
    Calls Tryd.prog 60 #[.slice a na ca, .int .u64 d] w fun e w' => ∃ c n cc, e = .returned (.slice c n cc) ∧ HNum w' c n cc (x * d) (S + 1) ∧ Below w.heap.size w w' := by
  obtain ⟨xs, a1, a2, hra, hx, a5, a6, _⟩ := ha
  have Hna : Hid (na = xs.length) := a1
  have HX5 : Hid (valH xs = x) := a5
  clear a1 a5
  go_enter Tryd.func60, Tryd.ntmps60
  go_wp2
  go_loopw [5, 6, 7] (fun v s i wr => ∃ (k : Nat) (F : List Int) (c : Int), k ≤ na + 1 ∧ i = .int .i64 k ∧ s = .int .u64 c ∧ OwnV wr w.heap.size v F ∧ F.length = k ∧ AllH F ∧ 0 ≤ c ∧ c < 4294967296 ∧ (k = na + 1 → c = 0) ∧ vH F k + c * pwH k = vH xs k * d ∧ Below w.heap.size w wr) (fun _ _ i _ => na + 1 - (intOf i).toNat)
  case atStart => exact ⟨0, [], 0, by omega, rfl, rfl, OwnV.nil _ _, rfl, AllH.nil, by omega, by omega, fun _ => rfl, by simp [vH], Below.refl _ _⟩
  case round =>
    obtain ⟨k, F, c, hk, rfl, rfl, hown, hF, hFh, hc0, hc1, hcM, hV, hbel⟩ := hrel
    have HF : Hid (F.length = k) := hF
    have HFh : Hid (AllH F) := hFh
    have HV : Hid (vH F k + c * pwH k = vH xs k * d) := hV
    clear hF hV hFh
    obtain ⟨x0, x1⟩ := hx.at k
    have hsz := hbel.size
    have hrow : ∀ q, u5.ownBlock = some q → w.heap.size ≤ q := fun q hq => (hown.lt q hq).1
    have x2 := mul_bdH x0 x1 hd0 hd1
    have hz : na ≤ k → lm xs k * d = 0 := fun h => by rw [lm_ge (by have := Hna.out; omega)]; simp
    have hdone : k < na ∨ lm xs k * d + c < 4294967296 := by
      rcases Nat.lt_or_ge k na with h | h
      · exact .inl h
      · have := hz h; right; omega
    have D0 : Hid (vH (F ++ [(lm xs k * d + c) % 4294967296]) (k + 1) + (lm xs k * d + c) / 4294967296 * pwH (k + 1) = vH xs (k + 1) * d) := by
      show _ = _
      rw [vH_app _ HF.out, pwH_succ]; exact dig_times HV.out rfl
    clear hz
    by_cases hgo : k < na ∨ 0 < c
    · have hkM : k ≠ na + 1 := fun h => by have := hcM h; omega
      have hkb : (decide ((k : Int) < (na : Int)) || decide (0 < c)) = true := by
        rcases hgo with h | h
        · have : (k : Int) < (na : Int) := by omega
          simp [this]
        · simp [h]
      have step : Calls Tryd.prog 58 #[.slice a na ca, .int .i64 k] wr fun e w' => e = .returned (.int .u64 (lm xs k)) ∧ wr = w' := at_any a na ca xs k wr Hna.out (by omega) (hra.below hbel)
      clear hra
      by_cases hlt : k < na
      · have hkl : (k : Int) < (na : Int) := by omega
        go_wp2_with fail
        refine step.mono ?_
        rintro e w1 ⟨rfl, rfl⟩
        clear step
        obtain ⟨p, hp⟩ : ∃ p, lm xs k * d = p := ⟨_, rfl⟩
        rw [hp] at x2 D0 hdone
        generalize lm xs k = X at *
        have T1 : (p + c).tmod 4294967296 = (p + c) % 4294967296 := Int.tmod_eq_emod_of_nonneg (by omega)
        have T2 : IntKind.u64.wrap ((p + c).tdiv 4294967296) = (p + c) / 4294967296 := by rw [Int.tdiv_eq_ediv_of_nonneg (by omega), IntKind.wrap_u64]; omega
        go_wp2_with (at_builtin; refine wpList_append1 22 Tryd.underlying22 _ rfl _ _ rfl w.heap.size u5 F k HF rfl (hown.alloc _) wr.heap.size _ ((p + c) % 4294967296) rfl (cell_new1 rfl) (by omega) (by simp; omega) (wr.heap.size + 1) (by simp) ?_)
        intro g cap1 w1 hown1 hgrow _ _
        have hbel1 : Below w.heap.size w w1 := hbel.trans (((Below.refl _ _).alloc (by omega) _).trans (grown_below hgrow (by simp; omega) hrow))
        clear hgrow hown
        go_wp2
        go_roundw
        case rel => exact ⟨k + 1, _, (p + c) / 4294967296, by omega, by go_num, rfl, hown1, by simp [HF.out], allH_app HFh.out (by omega) (by omega), by omega, by omega, by omega, D0.out, hbel1⟩
        case measure => simp [intOf]; omega
      · have hkl : ¬ (k : Int) < (na : Int) := by omega
        have hcc : 0 < c := by omega
        go_wp2_with fail
        refine step.mono ?_
        rintro e w1 ⟨rfl, rfl⟩
        clear step
        obtain ⟨p, hp⟩ : ∃ p, lm xs k * d = p := ⟨_, rfl⟩
        rw [hp] at x2 D0 hdone
        generalize lm xs k = X at *
        have T1 : (p + c).tmod 4294967296 = (p + c) % 4294967296 := Int.tmod_eq_emod_of_nonneg (by omega)
        have T2 : IntKind.u64.wrap ((p + c).tdiv 4294967296) = (p + c) / 4294967296 := by rw [Int.tdiv_eq_ediv_of_nonneg (by omega), IntKind.wrap_u64]; omega
        go_wp2_with (at_builtin; refine wpList_append1 22 Tryd.underlying22 _ rfl _ _ rfl w.heap.size u5 F k HF rfl (hown.alloc _) wr.heap.size _ ((p + c) % 4294967296) rfl (cell_new1 rfl) (by omega) (by simp; omega) (wr.heap.size + 1) (by simp) ?_)
        intro g cap1 w1 hown1 hgrow _ _
        have hbel1 : Below w.heap.size w w1 := hbel.trans (((Below.refl _ _).alloc (by omega) _).trans (grown_below hgrow (by simp; omega) hrow))
        clear hgrow hown
        go_wp2
        go_roundw
        case rel => exact ⟨k + 1, _, (p + c) / 4294967296, by omega, by go_num, rfl, hown1, by simp [HF.out], allH_app HFh.out (by omega) (by omega), by omega, by omega, by omega, D0.out, hbel1⟩
        case measure => simp [intOf]; omega
    · obtain rfl : c = 0 := by omega
      have hkl : ¬ (k : Int) < (na : Int) := by omega
      have HE : Hid (valH F = x * d) := by
        show _ = _
        have e := HV.out
        rw [vH_long (us := xs) (by have := Hna.out; omega), HX5.out] at e
        unfold valH; rw [HF.out]; omega
      obtain ⟨c', cc', rfl⟩ := own_form hown HF.out
      obtain ⟨h1, h2, h3⟩ := hown.reads
      have hle : tlen F ≤ F.length := tl_le _ _
      clear hra hx D0 HV h1
      go_wp2_with fail
      refine (rcut_any c' k cc' F wr HF.out.symm h2 (by omega) h3).mono ?_
      rintro e w2 ⟨rfl, rfl⟩
      rw [HF.out] at hle
      have HN := HNum.of_trim (S := S + 1) (cap := cc') h3 (by omega) HFh.out (by omega)
      rw [HE.out] at HN
      clear hown h3 h2
      go_wp2
      go_ret
      exact ⟨_, _, _, rfl, HN, hbel⟩

theorem div_spec {a b : Int} (hb : 0 < b) : a / b * b ≤ a ∧ a < (a / b + 1) * b := by
  have h1 := Int.mul_ediv_add_emod a b
  have h2 := Int.emod_nonneg a (by omega : b ≠ 0)
  have h3 := Int.emod_lt_of_pos a hb
  rw [Int.mul_comm] at h1
  rw [Int.add_mul]
  omega
theorem le_div {q a b : Int} (hb : 0 < b) (h : q * b ≤ a) : q ≤ a / b := (Int.le_ediv_iff_mul_le hb).2 h
theorem lt_of_mul {a b c : Int} (hc : 0 < c) (h : a * c < b * c) : a < b := Int.lt_of_mul_lt_mul_right h (by omega)
/-- How the guess by the topmost half limbs stands to the quotient. -/
theorem guess_ge {rs ys : List Int} {k : Nat} {r y Q : Int} (hr : AllH rs) (hy : AllH ys) (tr : tlen rs = rs.length) (ty : ys.length = k + 1) (er : valH rs = r) (ey : valH ys = y) (hT : 0 < lm ys k) (hb : r < y * 4294967296) (hQ : Q * y ≤ r) (hQ0 : 0 ≤ Q) :
    Q ≤ (lm rs (k + 1) * 4294967296 + lm rs k) / lm ys k := by
  refine le_div hT ?_
  have hyk : y = vH ys k + lm ys k * pwH k := by rw [← ey]; unfold valH; rw [ty]; rfl
  have hyl : y < pwH (k + 1) := by rw [← ey, ← ty]; exact valH_lt hy
  have hlen : rs.length ≤ k + 2 := by
    rcases Nat.lt_or_ge (k + 2) rs.length with h | h
    · have h1 := valH_ge hr (by omega)
      rw [er] at h1
      have h2 := pwH_mono (a := k + 2) (b := tlen rs - 1) (by omega)
      have h3 : pwH (k + 2) = pwH (k + 1) * 4294967296 := pwH_succ (k + 1)
      omega
    · exact h
  have e1 : r = vH rs k + lm rs k * pwH k + lm rs (k + 1) * pwH (k + 1) := by rw [← er, ← vH_long (n := k + 2) hlen]; rfl
  rw [pwH_succ] at e1
  have h1 := (vH_nn hr k).2
  have h2 := (vH_nn hy k).1
  have hP := pwH_pos k
  have h3 : Q * lm ys k * pwH k ≤ Q * y := by
    rw [hyk, Int.mul_add, Int.mul_assoc]
    have := Int.mul_nonneg hQ0 h2
    omega
  have h4 : Q * lm ys k * pwH k < (lm rs (k + 1) * 4294967296 + lm rs k + 1) * pwH k := by
    have e2 : (lm rs (k + 1) * 4294967296 + lm rs k + 1) * pwH k = lm rs (k + 1) * (pwH k * 4294967296) + lm rs k * pwH k + pwH k := by
      rw [Int.add_mul, Int.add_mul, Int.one_mul, Int.mul_assoc, Int.mul_comm 4294967296]
    omega
  have := lt_of_mul hP h4
  omega

theorem mul_eq_of {r y d Q : Int} (h2 : r < (Q + 1) * y) (hy : 0 < y) (hQ : Q ≤ d) (hc : y * d ≤ r) : Q = d := by
  have := lt_of_mul (a := d) (b := Q + 1) hy (by rw [Int.mul_comm d]; omega)
  omega
theorem mul_gt_of {r y d Q : Int} (h1 : Q * y ≤ r) (hy : 0 < y) (hc : r < y * d) : Q + 1 ≤ d := by
  have := lt_of_mul (a := Q) (b := d) hy (by rw [Int.mul_comm d]; omega)
  omega
theorem atI (a : Option Addr) (n cap : Nat) (hs : List Int) (i : Nat) (z : Int) (w : World) (hz : z = (i : Int)) (hn : n = hs.length) (hm : n ≤ 1099511627776) (hr : Reads w a hs) :
    Calls Tryd.prog 58 #[.slice a n cap, .int .i64 z] w fun e w' => e = .returned (.int .u64 (lm hs i)) ∧ w = w' := by
  subst hz; exact at_any a n cap hs i w hn hm hr

/-- The upper half limbs, from k on, in their places. -/
theorem vH_top (xs : List Int) (k : Nat) : vH xs (k + 1) = vH xs k + lm xs k * pwH k := rfl
theorem part_step {X Q rest d T P x t q : Int} (h : T = Q * d + rest * (P * 4294967296)) (ht : t = rest * 4294967296 + x) (hq : t = q * d + X) : T + x * P = (Q + q * P) * d + X * P := by
  have e1 : rest * (P * 4294967296) + x * P = t * P := by rw [ht, Int.add_mul, Int.mul_comm P, Int.mul_assoc]
  have e2 : t * P = q * P * d + X * P := by rw [hq, Int.add_mul, Int.mul_right_comm]
  rw [Int.add_mul]
  omega

theorem run_append_none0 {P : Program} {w : World} (base : Nat) (t ty e : TypeId) (i : TypeInfo) (size : Nat) (ht : P.underlying t = some (.slice e)) (hi : P.info? e = some i)
    (v : Value) (n : Nat) (xs : List Value) (hown : w.ownsRow base e size v n xs) (c : Nat) :
    (Builtin.append_ #[t, t] ty #[v, .slice none 0 c]).run P w = .ok v w := by
  have h := run_append_owned_none (P := P) (w := w) base t ty e i size ht hi v n xs hown
  rw [← h]
  rfl
theorem wpList_append_none0 {P : Program} {w : World} {ops : Array Oper} {rest : List Oper} {o : Oper} {a : Act} {Q : Exit → Act → World → Prop} (hgd : o.guard = none) (s x : Operand) (t : TypeId)
    (ho : o.op = .call { callee := .builtin .append, args := #[s, x], argTypes := #[t, t] })
    (base : Nat) (e : TypeId) (i : TypeInfo) (size : Nat) (ht : P.underlying t = some (.slice e)) (hi : P.info? e = some i)
    (v : Value) (n : Nat) (xs : List Value) (hs : a.eval s = v) (hown : w.ownsRow base e size v n xs) (c : Nat) (hx : a.eval x = .slice none 0 c)
    (h : wpList P ops Q rest (a.put o.dst v) w) : wpList P ops Q (o :: rest) a w := by
  refine wpList_plain hgd fun K hK => ?_
  have hrun := run_append_none0 (P := P) (w := w) base t o.type e i size ht hi v n xs hown c
  unfold Oper.wp
  simp [execOp, ho, resolve, invoke, builtin, hs, hx, hrun, Result.andThen]
  exact hK _ _ h

/-- 'append(v, s...)' at a plain region: v one's own, s read from wherever it lies. -/
theorem wpList_appendL (t : TypeId) (ht : Tryd.prog.underlying t = some (.slice 38)) (w : World) {ops : Array Oper} {rest : List Oper} {o : Oper} {a : Act} {Q : Exit → Act → World → Prop} (hgd : o.guard = none) (s x : Operand)
    (ho : o.op = .call { callee := .builtin .append, args := #[s, x], argTypes := #[t, t] }) (B : Nat) (v : Value) (xs : List Int) (hs : a.eval s = v) (hown : OwnV w B v xs) (p : Option Addr) (m c : Nat) (ys : List Int) (hx : a.eval x = .slice p m c)
    (hm : m = ys.length) (hr : Reads w p ys) (hlen : xs.length + m ≤ 1000000000000) (hB : B ≤ w.heap.size)
    (hK : ∀ v' w', OwnV w' B v' (xs ++ ys) → w.grownBy w' v.ownBlock → wpList Tryd.prog ops Q rest (a.put o.dst v') w') :
    wpList Tryd.prog ops Q (o :: rest) a w := by
  subst hm
  obtain ⟨i0, hi, hz0, hz1, hz2⟩ := info_parts Tryd.infoU64
  have own' : ∀ v' w', w'.ownsRow B 38 1 v' (xs.length + ys.length) (xs.map (Value.int .u64) ++ ys.map (Value.int .u64)) → w.grownBy w' v.ownBlock → wpList Tryd.prog ops Q rest (a.put o.dst v') w' := fun v' w' h1 h2 => hK v' w' (by unfold OwnV; simpa using h1) h2
  rcases p with _ | ⟨ad⟩
  · have hy : ys = [] := by rcases hr with h | ⟨b, o', h, _⟩; exact h; cases h
    subst hy
    refine wpList_append_none0 hgd s x t ho B 38 i0 1 ht hi v xs.length (xs.map (Value.int .u64)) hs hown c hx ?_
    exact hK v w (by simpa using hown) (World.grownBy.refl _ _)
  · refine wpList_append_own w hgd s x t ho B 38 i0 (.int .u64 0) 1 8 ht hi hz0 hz1 hz2 rfl (by decide) v xs.length (xs.map (Value.int .u64)) hs hown ad ys.length c (ys.map (Value.int .u64)) hx (by simp) ?_ (fun u hu => by simp only [List.mem_map] at hu; obtain ⟨x, _, rfl⟩ := hu; rfl) (by unfold maxLen; omega) (by omega) hB (fun v' w' h1 h2 _ => own' v' w' h1 h2)
    intro j u hj
    simp only [List.getElem?_map, Option.map_eq_some_iff] at hj
    obtain ⟨y, hy, rfl⟩ := hj
    have hjl : j < ys.length := (List.getElem?_eq_some_iff.1 hy).1
    rw [lm_lt hjl] at hy
    cases hy
    obtain ⟨b, o', h, hc⟩ := hr.at (by omega)
    cases h
    have := hc j hjl
    by_cases h0 : j = 0
    · subst h0; simpa [Addr.add] using this
    · simpa [Addr.add, h0] using this

theorem valH_cons (z : Int) (rs : List Int) : valH (z :: rs) = z + 4294967296 * valH rs := by
  have h : ∀ n, vH (z :: rs) (n + 1) = z + 4294967296 * vH rs n := by
    intro n
    induction n with
    | zero => simp [vH, lm, pwH]
    | succ n ih =>
      rw [vH_top, ih, vH_top, pwH_succ]
      have e : lm (z :: rs) (n + 1) = lm rs n := by simp [lm]
      rw [e, Int.mul_add, Int.add_assoc]
      congr 2
      ac_rfl
  show vH (z :: rs) (rs.length + 1) = _
  rw [h]; rfl
theorem HNum.shrink {w : World} {a : Option Addr} {n cap : Nat} {x : Int} {S m : Nat} (h : HNum w a n cap x S) (hx : x < pwH m) : HNum w a n cap x m := by
  obtain ⟨hs, h1, h2, h3, h4, h5, h6, h7⟩ := h
  refine ⟨hs, h1, h2, h3, h4, h5, ?_, h7⟩
  rcases Nat.lt_or_ge m n with h | h
  · have g := valH_ge h4 (by omega)
    have := pwH_mono (a := m) (b := tlen hs - 1) (by omega)
    omega
  · exact h

theorem uval_fit {xs : List Int} (hx : AllW xs) (h : ufit xs = true) : uval xs = val xs ∧ 0 ≤ val xs ∧ val xs < 18446744073709551616 := by
  have h1 : tlen xs ≤ 1 := by simpa [ufit] using h
  have h2 := val_lt_tlen hx
  have h3 := val_nn hx
  have h4 := pw_mono h1
  have h5 : pw 1 = 18446744073709551616 := by simp [pw]
  refine ⟨?_, h3, by omega⟩
  unfold uval
  split
  · rename_i h6
    have h7 := vS_trim xs
    rw [h6] at h7
    rw [← h7]
    simp [vS, pw]
  · rename_i h6
    rw [(tlen_zero hx).1 (by omega)]
theorem uval_far {xs : List Int} (h : ufit xs = false) : uval xs = 0 := by
  have h1 : ¬ tlen xs ≤ 1 := by simpa [ufit] using h
  unfold uval; rw [if_neg (by omega)]

end Go.Proofs.YtjlmboakeigmpaaDoor

namespace Go.Proofs.YtjlmboakeigmpaaDoor
open Go.RowKit

theorem div_fin {x y d Q p : Int} (h : x * d = Q * (y * d) + p) (h0 : 0 ≤ p) (h1 : p < y * d) (hd : 0 < d) (hy : 0 < y) : Q = x / y ∧ p / d = x % y := by
  have e : p = (x - Q * y) * d := by rw [Int.sub_mul, Int.mul_assoc]; omega
  have e1 : p / d = x - Q * y := by rw [e, Int.mul_ediv_cancel _ (by omega)]
  have m0 : 0 ≤ x - Q * y := by
    by_cases h : 0 ≤ x - Q * y
    · exact h
    · have := Int.mul_neg_of_neg_of_pos (by omega : x - Q * y < 0) hd; omega
  have m1 : x - Q * y < y := lt_of_mul hd (by omega)
  have := (Int.ediv_emod_unique hy).2 ⟨(by rw [Int.mul_comm y]; omega : (x - Q * y) + y * Q = x), m0, m1⟩
  exact ⟨this.1.symm, by rw [e1]; exact this.2.symm⟩
theorem ediv_pos1 {T : Int} (h0 : 0 < T) (h1 : T < 4294967296) : 0 < 4294967296 / (T + 1) := (Int.le_ediv_iff_mul_le (by omega)).2 (by omega)
theorem ediv_lt1 {T : Int} (h0 : 0 < T) : 4294967296 / (T + 1) < 4294967296 := Int.ediv_lt_of_lt_mul (by omega) (by omega)
theorem own_new1 (w : World) (z : Int) : OwnV (w.alloc (.cells #[Value.int .u64 z] 38)) w.heap.size (.slice (some ⟨w.heap.size, 0, none⟩) 1 1) [z] := by
  have h : Blk (w.alloc (.cells #[Value.int .u64 z] 38)) w.heap.size [z] := blk_new [z]
  have := (h.row 1 (by unfold maxLen; simp)).own (Nat.le_refl w.heap.size)
  simpa using this
theorem HNum.off {w w' : World} {a : Option Addr} {n cap : Nat} {x : Int} {S g : Nat} (h : HNum w a n cap x S) (ho : Off g w w') (ha : Away a g) : HNum w' a n cap x S := by
  obtain ⟨xs, h1, h2, h3, h4⟩ := h
  exact ⟨xs, h1, h2, h3.off ho ha, h4⟩
theorem HNum.nil (w : World) (S : Nat) : HNum w none 0 0 0 S := ⟨[], rfl, Nat.le_refl _, .inl rfl, AllH.nil, rfl, Nat.zero_le _, rfl⟩
theorem HNum.top {w : World} {a : Option Addr} {n cap : Nat} {x : Int} {S : Nat} (h : HNum w a n cap x S) (hx : 0 < x) : ∃ k b o T, n = k + 1 ∧ a = some ⟨b, o, none⟩ ∧ w.cell? ⟨b, o + k, none⟩ = some (.int .u64 T) ∧ 0 < T ∧ T < 4294967296 := by
  obtain ⟨ys, b1, b2, hrb, hy, b5, b6, b7⟩ := h
  have hpos : 0 < n := by
    rcases Nat.eq_zero_or_pos n with h | h
    · have : ys = [] := List.eq_nil_of_length_eq_zero (by omega)
      subst this; simp [valH, vH] at b5; omega
    · exact h
  obtain ⟨k, hk⟩ : ∃ k, n = k + 1 := ⟨n - 1, by omega⟩
  subst hk
  obtain ⟨b, o, e, hc⟩ := hrb.at (by omega)
  refine ⟨k, b, o, lm ys k, rfl, e, hc k (by omega), ?_, (hy.at k).2⟩
  rcases Int.lt_or_eq_of_le (hy.at k).1 with h | h
  · exact h
  · exfalso
    unfold tlen at b7
    rw [← b1] at b7
    unfold tl at b7
    rw [if_pos h.symm] at b7
    have := tl_le ys k
    omega

end Go.Proofs.YtjlmboakeigmpaaDoor

namespace Go.Proofs.YtjlmboakeigmpaaDoor
open Go.RowKit

theorem rnormG2 {a : Option Addr} {na ca : Nat} {x : Int} {S : Nat} (w : World) (ha : Num w a na ca x S) (hS : S ≤ 10000000) :
    Calls Tryd.prog 56 #[.slice a na ca] w fun e w' => ∃ c n cc, e = .returned (.slice c n cc) ∧ Got w' w.heap.size (.slice c n cc) x S ∧ Below w.heap.size w w' := by
  obtain ⟨xs, h1, h2, h3, h4, h5, h6⟩ := ha
  refine (rnorm_any a na ca xs w h1 h2 (by omega) h3 h4).mono ?_
  rintro e w' ⟨c, cc, rfl, ho, hb⟩
  have hl : tlen xs ≤ xs.length := tl_le _ _
  exact ⟨c, _, cc, rfl, ⟨trimL xs, ho, NF.trimL h4, by rw [val_trimL]; exact h5, by rw [length_trimL]; omega⟩, hb⟩
theorem Got.wval {w : World} {B : Nat} {a : Option Addr} {n cap : Nat} {x S : Nat} (h : Got w B (.slice a n cap) (x : Int) S) : wval w (.slice a n cap) = x := by
  obtain ⟨xs, h1, h2, h3, h4⟩ := h
  rcases h1.row with ⟨e1, e2⟩ | ⟨g, c, e1, hB, hr⟩
  · subst e2
    simp only [Value.slice.injEq] at e1
    obtain ⟨rfl, rfl, rfl⟩ := e1
    simp [Go.Proofs.YtjlmboakeigmpaaDoor.val, vS] at h3
    show (0 : Nat) = x
    omega
  · simp only [Value.slice.injEq] at e1
    obtain ⟨rfl, e2, rfl⟩ := e1
    have e : ∀ k, k ≤ xs.length → rdv w g 0 k = vS xs k := by
      intro k hk
      induction k with
      | zero => rfl
      | succ k ih =>
        show rdv w g 0 k + cellI w g (0 + k) * pw k = vS _ k + lm _ k * pw k
        rw [ih (by omega)]
        congr 2
        unfold cellI
        rw [Nat.zero_add, hr.cell (by omega)]
    show (rdv w g 0 n).toNat = x
    have e3 : vS xs xs.length = Go.Proofs.YtjlmboakeigmpaaDoor.val xs := rfl
    rw [e2, e _ (Nat.le_refl _), e3, h3]
    simp
theorem Got.len {w : World} {B : Nat} {a : Option Addr} {n cap : Nat} {x S : Nat} (h : Got w B (.slice a n cap) (x : Int) S) : (x : Int) < pw n ∧ (n = 0 ↔ x = 0) ∧ n ≤ S := by
  obtain ⟨xs, h1, h2, h3, h4⟩ := h
  have h5 := h1.reads.1
  have h6 := val_lt h2.1
  have h7 := tlen_zero h2.1
  have h8 := h2.2
  rw [h3] at h6 h7
  rw [← h5] at h6
  refine ⟨h6, ?_, by omega⟩
  omega

end Go.Proofs.YtjlmboakeigmpaaDoor

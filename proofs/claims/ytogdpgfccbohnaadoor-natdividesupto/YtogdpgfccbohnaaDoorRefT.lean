import Derived.Test.YtogdpgfccbohnaaDoorRefE
namespace Go.Proofs.YtogdpgfccbohnaaDoor
open Go.RowKit

theorem dig_times {A F x c P d p : Int} (h : F + c * P = A * d) (hp : x * d = p) : F + (p + c) % 4294967296 * P + (p + c) / 4294967296 * (P * 4294967296) = (A + x * P) * d := by
  rw [Int.add_assoc, mod_mulH, Int.add_mul, Int.add_mul, ← hp, Int.mul_right_comm x d P]; omega

set_option maxHeartbeats 4000000 in
/-- Half limbs times one half limb. -/
theorem rtimesV {a : Option Addr} {na ca : Nat} {x d : Int} {S : Nat} (w : World) (ha : HNum w a na ca x S) (hd0 : 0 ≤ d) (hd1 : d < 4294967296) (hS : S ≤ 100000000) :
    Calls Tryd.prog 53 #[.slice a na ca, .int .u64 d] w fun e w' => ∃ c n cc, e = .returned (.slice c n cc) ∧ HNum w' c n cc (x * d) (S + 1) ∧ Below w.heap.size w w' := by
  obtain ⟨xs, a1, a2, hra, hx, a5, a6, _⟩ := ha
  have Hna : Hid (na = xs.length) := a1
  have HX5 : Hid (valH xs = x) := a5
  clear a1 a5
  go_enter Tryd.func53, Tryd.ntmps53
  go_wp2
  go_loopw [5, 6, 7] (fun v s i wr => ∃ (k : Nat) (F : List Int) (c : Int), k ≤ na + 1 ∧ i = .int .i64 k ∧ s = .int .u64 c ∧ OwnV wr w.heap.size v F ∧ F.length = k ∧ AllH F ∧ 0 ≤ c ∧ c < 4294967296 ∧ (k = na + 1 → c = 0) ∧ vH F k + c * pwH k = vH xs k * d ∧ Below w.heap.size w wr) (fun _ _ i _ => na + 1 - (intOf i).toNat)
  case atStart => exact ⟨0, [], 0, by omega, rfl, rfl, OwnV.nil _ _, rfl, AllH.nil, by omega, by omega, fun _ => rfl, by simp [vH], Below.refl _ _⟩
  case round =>
    obtain ⟨k, F, c, hk, rfl, rfl, hown, hF, hFh, hc0, hc1, hcM, hV, hbel⟩ := hrel
    have HF : Hid (F.length = k) := hF
    have HFh : Hid (AllH F) := hFh
    have HV : Hid (vH F k + c * pwH k = vH xs k * d) := hV
    clear hF hV hFh
    obtain ⟨x0, x1⟩ := hx.at k
    have hsz := hbel.size
    have hrow : ∀ q, u5.ownBlock = some q → w.heap.size ≤ q := fun q hq => (hown.lt q hq).1
    have x2 := mul_bdH x0 x1 hd0 hd1
    have hz : na ≤ k → lm xs k * d = 0 := fun h => by rw [lm_ge (by have := Hna.out; omega)]; simp
    have hdone : k < na ∨ lm xs k * d + c < 4294967296 := by
      rcases Nat.lt_or_ge k na with h | h
      · exact .inl h
      · have := hz h; right; omega
    have D0 : Hid (vH (F ++ [(lm xs k * d + c) % 4294967296]) (k + 1) + (lm xs k * d + c) / 4294967296 * pwH (k + 1) = vH xs (k + 1) * d) := by
      show _ = _
      rw [vH_app _ HF.out, pwH_succ]; exact dig_times HV.out rfl
    clear hz
    by_cases hgo : k < na ∨ 0 < c
    · have hkM : k ≠ na + 1 := fun h => by have := hcM h; omega
      have hkb : (decide ((k : Int) < (na : Int)) || decide (0 < c)) = true := by
        rcases hgo with h | h
        · have : (k : Int) < (na : Int) := by omega
          simp [this]
        · simp [h]
      have step : Calls Tryd.prog 48 #[.slice a na ca, .int .i64 k] wr fun e w' => e = .returned (.int .u64 (lm xs k)) ∧ wr = w' := at_any a na ca xs k wr Hna.out (by omega) (hra.below hbel)
      clear hra
      by_cases hlt : k < na
      · have hkl : (k : Int) < (na : Int) := by omega
        go_wp2_with fail
        refine step.mono ?_
        rintro e w1 ⟨rfl, rfl⟩
        clear step
        obtain ⟨p, hp⟩ : ∃ p, lm xs k * d = p := ⟨_, rfl⟩
        rw [hp] at x2 D0 hdone
        generalize lm xs k = X at *
        have T1 : (p + c).tmod 4294967296 = (p + c) % 4294967296 := Int.tmod_eq_emod_of_nonneg (by omega)
        have T2 : IntKind.u64.wrap ((p + c).tdiv 4294967296) = (p + c) / 4294967296 := by rw [Int.tdiv_eq_ediv_of_nonneg (by omega), IntKind.wrap_u64]; omega
        go_wp2_with (at_builtin; refine wpList_append1 22 Tryd.underlying22 _ rfl _ _ rfl w.heap.size u5 F k HF rfl (hown.alloc _) wr.heap.size _ ((p + c) % 4294967296) rfl (cell_new1 rfl) (by omega) (by simp; omega) (wr.heap.size + 1) (by simp) ?_)
        intro g cap1 w1 hown1 hgrow _ _
        have hbel1 : Below w.heap.size w w1 := hbel.trans (((Below.refl _ _).alloc (by omega) _).trans (grown_below hgrow (by simp; omega) hrow))
        clear hgrow hown
        go_wp2
        go_roundw
        case rel => exact ⟨k + 1, _, (p + c) / 4294967296, by omega, by go_num, rfl, hown1, by simp [HF.out], allH_app HFh.out (by omega) (by omega), by omega, by omega, by omega, D0.out, hbel1⟩
        case measure => simp [intOf]; omega
      · have hkl : ¬ (k : Int) < (na : Int) := by omega
        have hcc : 0 < c := by omega
        go_wp2_with fail
        refine step.mono ?_
        rintro e w1 ⟨rfl, rfl⟩
        clear step
        obtain ⟨p, hp⟩ : ∃ p, lm xs k * d = p := ⟨_, rfl⟩
        rw [hp] at x2 D0 hdone
        generalize lm xs k = X at *
        have T1 : (p + c).tmod 4294967296 = (p + c) % 4294967296 := Int.tmod_eq_emod_of_nonneg (by omega)
        have T2 : IntKind.u64.wrap ((p + c).tdiv 4294967296) = (p + c) / 4294967296 := by rw [Int.tdiv_eq_ediv_of_nonneg (by omega), IntKind.wrap_u64]; omega
        go_wp2_with (at_builtin; refine wpList_append1 22 Tryd.underlying22 _ rfl _ _ rfl w.heap.size u5 F k HF rfl (hown.alloc _) wr.heap.size _ ((p + c) % 4294967296) rfl (cell_new1 rfl) (by omega) (by simp; omega) (wr.heap.size + 1) (by simp) ?_)
        intro g cap1 w1 hown1 hgrow _ _
        have hbel1 : Below w.heap.size w w1 := hbel.trans (((Below.refl _ _).alloc (by omega) _).trans (grown_below hgrow (by simp; omega) hrow))
        clear hgrow hown
        go_wp2
        go_roundw
        case rel => exact ⟨k + 1, _, (p + c) / 4294967296, by omega, by go_num, rfl, hown1, by simp [HF.out], allH_app HFh.out (by omega) (by omega), by omega, by omega, by omega, D0.out, hbel1⟩
        case measure => simp [intOf]; omega
    · obtain rfl : c = 0 := by omega
      have hkl : ¬ (k : Int) < (na : Int) := by omega
      have HE : Hid (valH F = x * d) := by
        show _ = _
        have e := HV.out
        rw [vH_long (us := xs) (by have := Hna.out; omega), HX5.out] at e
        unfold valH; rw [HF.out]; omega
      obtain ⟨c', cc', rfl⟩ := own_form hown HF.out
      obtain ⟨h1, h2, h3⟩ := hown.reads
      have hle : tlen F ≤ F.length := tl_le _ _
      clear hra hx D0 HV h1
      go_wp2_with fail
      refine (rcut_any c' k cc' F wr HF.out.symm h2 (by omega) h3).mono ?_
      rintro e w2 ⟨rfl, rfl⟩
      rw [HF.out] at hle
      have HN := HNum.of_trim (S := S + 1) (cap := cc') h3 (by omega) HFh.out (by omega)
      rw [HE.out] at HN
      clear hown h3 h2
      go_wp2
      go_ret
      exact ⟨_, _, _, rfl, HN, hbel⟩
end Go.Proofs.YtogdpgfccbohnaaDoor

import Derived.Test.YtjbcjapgammbhacDoorAdd
namespace Go.Proofs.YtjbcjapgammbhacDoor
open Go.RowKit

/-- takeFrom's first loop, so many rounds of it: the block, and the borrow. -/
def subR (us : List Int) (o : Nat) (ys : List Int) : Nat → List Int × Int
  | 0 => (us, 0)
  | k + 1 => ((subR us o ys k).1.set (o + k) ((lm (subR us o ys k).1 (o + k) - lm ys k - (subR us o ys k).2) % 18446744073709551616), bor (lm (subR us o ys k).1 (o + k)) (lm ys k + (subR us o ys k).2))
theorem subR_ok {us ys : List Int} (o : Nat) (hu : AllW us) (k : Nat) : AllW (subR us o ys k).1 ∧ (subR us o ys k).1.length = us.length ∧ 0 ≤ (subR us o ys k).2 ∧ (subR us o ys k).2 ≤ 1 := by
  induction k with
  | zero => simp [subR, hu]
  | succ k ih =>
    obtain ⟨h1, h2, h3, h4⟩ := ih
    exact ⟨h1.set _ _ (word_mod _), by simp [subR, h2], (bor_01 _ _).1, (bor_01 _ _).2⟩
/-- Its second one, of f limbs at the most: the block behind it, and the borrow. -/
def sip (o n : Nat) : Nat → List Int → Int → List Int × Int
  | 0, u, c => (u, c)
  | f + 1, u, c => if 0 < c then sip o n f (u.set (o + (n - (f + 1))) ((lm u (o + (n - (f + 1))) - c) % 18446744073709551616)) (bor (lm u (o + (n - (f + 1)))) c) else (u, c)
def subF (us : List Int) (o n : Nat) (ys : List Int) : List Int × Int := sip o n (n - ys.length) (subR us o ys ys.length).1 (subR us o ys ys.length).2

theorem sip_stop {o n i : Nat} {u : List Int} {c : Int} (h : ¬ 0 < c) : sip o n (n - i) u c = (u, c) := by
  cases e : n - i with
  | zero => rfl
  | succ f => simp [sip, h]
theorem sip_step {o n i : Nat} {u : List Int} {c : Int} (h : i < n) (hc : 0 < c) : sip o n (n - i) u c = sip o n (n - (i + 1)) (u.set (o + i) ((lm u (o + i) - c) % 18446744073709551616)) (bor (lm u (o + i)) c) := by
  rw [show n - i = (n - (i + 1)) + 1 by omega]
  simp only [sip, if_pos hc]
  rw [show n - (n - (i + 1) + 1) = i by omega]
theorem sip_end {o n i : Nat} {u : List Int} {c : Int} (h : n ≤ i) : sip o n (n - i) u c = (u, c) := by
  rw [show n - i = 0 by omega]; rfl
theorem length_sip (o n : Nat) : ∀ (f : Nat) (u : List Int) (c : Int), (sip o n f u c).1.length = u.length
  | 0, u, c => rfl
  | f + 1, u, c => by
    unfold sip
    split
    · rw [length_sip]; simp
    · rfl
theorem length_subR (us : List Int) (o : Nat) (ys : List Int) (k : Nat) : (subR us o ys k).1.length = us.length := by
  induction k with
  | zero => rfl
  | succ k ih => simp [subR, ih]
theorem length_subF (us : List Int) (o n : Nat) (ys : List Int) : (subF us o n ys).1.length = us.length := by
  unfold subF; rw [length_sip, length_subR]

set_option maxHeartbeats 1000000 in
theorem takeFrom_any (g o n cap : Nat) (us : List Int) (b : Option Addr) (nb cb : Nat) (ys : List Int) (w : World) (hb : Blk w g us) (hfit : o + n ≤ us.length) (hm : us.length ≤ 1099511627776) (hu : AllW us)
    (hnb : nb = ys.length) (hle : nb ≤ n) (hr : Reads w b ys) (haw : ys ≠ [] → Away b g) (hy : AllW ys) (hlast : (subF us o n ys).2 = 0) :
    Calls Tryd.prog 40 #[.slice (some ⟨g, o, none⟩) n cap, .slice b nb cb] w fun e w' => e = .returned (.tuple #[]) ∧ Blk w' g (subF us o n ys).1 ∧ Off g w w' := by
  subst hnb
  have HLAST : Hid ((subF us o n ys).2 = 0) := hlast
  clear hlast
  go_enter Tryd.func40, Tryd.ntmps40
  go_wp2
  go_loopw [4, 10] (fun c i wr => ∃ k : Nat, k ≤ ys.length ∧ i = .int .i64 k ∧ c = .int .u64 (subR us o ys k).2 ∧ Blk wr g (subR us o ys k).1 ∧ Off g w wr) (fun _ i _ => ys.length - (intOf i).toNat)
  case atStart => exact ⟨0, Nat.zero_le _, rfl, rfl, hb, Off.refl _ _⟩
  case round =>
    obtain ⟨k, hk, rfl, rfl, hbr, hoff⟩ := hrel
    obtain ⟨ok1, ok2, ok3, ok4⟩ := subR_ok (ys := ys) o hu k
    by_cases hlt : k < ys.length
    · obtain ⟨b2, o2, rfl, hc2⟩ := hr.at (by omega)
      have HN : Hid (subR us o ys (k + 1) = ((subR us o ys k).1.set (o + k) ((lm (subR us o ys k).1 (o + k) - lm ys k - (subR us o ys k).2) % 18446744073709551616), bor (lm (subR us o ys k).1 (o + k)) (lm ys k + (subR us o ys k).2))) := rfl
      generalize hU : (subR us o ys k).1 = U at *
      generalize hC : (subR us o ys k).2 = C at *
      clear hU hC
      have HC2 : wr.cell? ⟨b2, o2 + k, none⟩ = some (.int .u64 (lm ys k)) := by rw [hoff.cell (p := ⟨b2, o2 + k, none⟩) (by exact haw (List.length_pos_iff.1 (by omega)) ⟨b2, o2, none⟩ rfl)]; exact hc2 k hlt
      have hcg := hbr.cell (i := o + k) (by omega)
      have hfg := hbr.frozen (o + k)
      have a1 := ok1.at (o + k)
      have a2 := hy.at k
      have HB := hbr.set (o + k) ((lm U (o + k) - lm ys k - C) % 18446744073709551616)
      have HO := hoff.set (o + k) (.int .u64 ((lm U (o + k) - lm ys k - C) % 18446744073709551616))
      obtain ⟨a10, a11⟩ := a1
      obtain ⟨a20, a21⟩ := a2
      have hkn : (k : Int) < (n : Int) := by omega
      clear hc2 hb hr haw hbr hoff
      go_wp2_with (simp only [sub64 (lm U (o + k)) (lm ys k) C a10 a20 a21 ok3 ok4])
      go_roundw
      case rel => exact ⟨k + 1, by omega, by go_num, by rw [HN.out], by rw [HN.out]; exact HB, HO⟩
      case measure => simp [intOf]; omega
    · obtain rfl : k = ys.length := by omega
      clear hlt
      have HF : Hid (subF us o n ys = sip o n (n - ys.length) (subR us o ys ys.length).1 (subR us o ys ys.length).2) := rfl
      generalize hU : (subR us o ys ys.length).1 = U at *
      generalize hC : (subR us o ys ys.length).2 = C at *
      clear hU hC
      clear hb
      go_wp2
      go_loopw [4, 7] (fun c i wr => ∃ (q : Nat) (V : List Int) (D : Int), i = .int .i64 q ∧ ys.length ≤ q ∧ q ≤ n ∧ c = .int .u64 D ∧ Blk wr g V ∧ Off g w wr ∧ sip o n (n - q) V D = subF us o n ys ∧ AllW V ∧ V.length = us.length ∧ 0 ≤ D ∧ D ≤ 1) (fun _ i _ => n - (intOf i).toNat)
      case atStart => exact ⟨_, U, C, rfl, Nat.le_refl _, hle, rfl, hbr, hoff, HF.out.symm, ok1, ok2, ok3, ok4⟩
      case round =>
        obtain ⟨q, V, D, rfl, hq1, hq2, rfl, hbv, hov, hrip, v1, v2, v3, v4⟩ := hrel
        have HR : Hid (sip o n (n - q) V D = subF us o n ys) := hrip
        clear hrip hbr hoff ok1 ok2 ok3 ok4
        by_cases hD : 0 < D
        · have hqn : q < n := by
            rcases Nat.lt_or_ge q n with h | h
            · exact h
            · have := HR.out
              rw [sip_end h] at this
              have h0 := HLAST.out
              rw [← this] at h0
              simp only at h0
              omega
          have hcg := hbv.cell (i := o + q) (by omega)
          have hfg := hbv.frozen (o + q)
          obtain ⟨a10, a11⟩ := v1.at (o + q)
          have hbo := bor_01 (lm V (o + q)) D
          have HB := hbv.set (o + q) ((lm V (o + q) - D) % 18446744073709551616)
          have HO := hov.set (o + q) (.int .u64 ((lm V (o + q) - D) % 18446744073709551616))
          have HR2 : Hid (sip o n (n - (q + 1)) (V.set (o + q) ((lm V (o + q) - D) % 18446744073709551616)) (bor (lm V (o + q)) D) = subF us o n ys) := (sip_step hqn hD).symm.trans HR.out
          clear hbv hov HR
          go_wp2_with (simp only [sub64_c (lm V (o + q)) D a10 v3 v4])
          go_roundw
          case rel => exact ⟨q + 1, _, _, by go_num, by omega, by omega, rfl, HB, HO, HR2.out, v1.set _ _ (word_mod _), by simp [v2], hbo.1, hbo.2⟩
          case measure => simp [intOf]; omega
        · have HR2 : Hid (V = (subF us o n ys).1) := by show _ = _; rw [← HR.out, sip_stop hD]
          have hDb : decide (0 < D) = false := by simpa using hD
          go_wp2
          go_end0
          exact ⟨rfl, HR2.out ▸ hbv, hov⟩

/-- The difference's limbs, ahead of the last cut. -/
def subL (xs ys : List Int) : List Int := (subF (trimL xs) 0 (tlen xs) (trimL ys)).1

end Go.Proofs.YtjbcjapgammbhacDoor

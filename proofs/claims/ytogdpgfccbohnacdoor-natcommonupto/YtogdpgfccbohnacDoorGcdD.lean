import Derived.Test.YtogdpgfccbohnacDoorGcdC
namespace Go.Proofs.YtogdpgfccbohnacDoor
open Go.RowKit

theorem sip_far (o n : Nat) : ∀ (f : Nat) (u : List Int) (c : Int) (i : Nat), f ≤ n → i < o ∨ o + n ≤ i → lm (sip o n f u c).1 i = lm u i
  | 0, _, _, _, _, _ => rfl
  | f + 1, u, c, i, hf, h => by
    unfold sip
    split
    · rw [sip_far o n f _ _ i (by omega) h, lm_set, if_neg (by omega)]
    · rfl
theorem subR_far (us : List Int) (o : Nat) (ys : List Int) (k i : Nat) (h : i < o ∨ o + k ≤ i) : lm (subR us o ys k).1 i = lm us i := by
  induction k with
  | zero => rfl
  | succ k ih => simp only [subR]; rw [lm_set, if_neg (by omega), ih (by omega)]
/-- Taken in place, where it goes. -/
theorem subF_sg {us ys : List Int} {o n : Nat} (hu : AllW us) (hy : AllW ys) (hl : o + n ≤ us.length) (hle : ys.length ≤ n) (hge : val ys ≤ sg us o n) : (subF us o n ys).2 = 0 ∧ AllW (subF us o n ys).1 ∧ sg (subF us o n ys).1 o n = sg us o n - val ys := by
  obtain ⟨a1, a2, a3, a4⟩ := subR_ok (us := us) (ys := ys) o hu ys.length
  have e := subR_val hu hy o ys.length (o + n) (by omega) (by omega)
  obtain ⟨h2, h3, h4, h5⟩ := sip_val o n (o + n) (n - ys.length) (subR us o ys ys.length).1 (subR us o ys ys.length).2 (by omega) a1 a3 a4 (by omega) (by omega)
  have hf : ∀ i, i < o → lm (sip o n (n - ys.length) (subR us o ys ys.length).1 (subR us o ys ys.length).2).1 i = lm us i := fun i hi => by
    rw [sip_far o n _ _ _ i (by omega) (.inl hi), subR_far us o ys _ i (.inl hi)]
  rw [show o + (n - (n - ys.length)) = o + ys.length by omega, e, sg_split, sg_split] at h5
  unfold subF
  generalize sip o n (n - ys.length) (subR us o ys ys.length).1 (subR us o ys ys.length).2 = U at *
  have e2 : vS U.1 o = vS us o := vS_congr fun i hi => hf i hi
  have e7 : vS ys ys.length = val ys := rfl
  rw [e2, e7, pw_add] at h5
  have h6 : pw o * (sg U.1 o n - U.2 * pw n) = pw o * (sg us o n - val ys) := by
    rw [Int.mul_sub, Int.mul_sub, Int.mul_left_comm (pw o) U.2]
    omega
  have h7 := Int.eq_of_mul_eq_mul_left (by have := pw_pos o; omega) h6
  have h8 := (sg_nn h2 o n).2
  have hz : U.2 = 0 := by
    rcases (by omega : U.2 = 0 ∨ U.2 = 1) with h | h
    · exact h
    · rw [h] at h7; omega
  rw [hz] at h7
  exact ⟨hz, h2, by omega⟩
theorem sg_val {us : List Int} {o n : Nat} (h : o + n ≤ us.length) : val ((us.drop o).take n) = sg us o n := by
  unfold sg
  rw [← vS_long (us := (us.drop o).take n) (n := n) (by rw [seg_list h]; exact Nat.le_refl _)]
  exact vS_congr fun i hi => lm_take hi
theorem tab_below {w w' : World} {B g : Nat} {tab : List Nat} (h : TabAt g tab w) (hb : Below B w w') (hg : g < B) : TabAt g tab w' := fun j hj => by
  rw [hb.cell (p := ⟨g, j, none⟩) hg]; exact h j hj
/-- A number that came out whole: a segment. -/
theorem seg_of_got {w : World} {B : Nat} {a : Option Addr} {n : Nat} {x S : Nat} (h : Got w B (.slice a n n) x S) (hx : 0 < x) : ∃ g, a = some ⟨g, 0, none⟩ ∧ B ≤ g ∧ Seg w B g 0 n n x S := by
  obtain ⟨xs, h1, h2, h3, h4⟩ := h
  rcases h1.row with ⟨e1, e2⟩ | ⟨g, cap, e1, hB, cur, r1, r2, r3, r4, r5⟩
  · subst e2; simp [val, vS] at h3; omega
  · simp only [Value.slice.injEq] at e1
    obtain ⟨rfl, e3, e4⟩ := e1
    subst e4
    have hb : Blk w g xs := by
      unfold Blk
      rw [r1]
      have : cur = (xs.map (Value.int .u64)).toArray := by
        rw [← r5, List.take_of_length_le (by simp [r4]; omega)]
      rw [this]
    refine ⟨g, rfl, hB, xs, hb, hB, by omega, Nat.le_refl _, h4, h2.1, ?_, ?_⟩
    · rw [List.drop_zero, e3, List.take_length]; exact h2.2
    · rw [List.drop_zero, e3, List.take_length]; exact h3

set_option maxHeartbeats 1000000 in
/-- One is taken from the other, once or as often as it goes. -/
theorem lessen_any {B ga oa na ca x gb ob nb cb y S : Nat} (w : World) (hA : Seg w B ga oa na ca x S) (hB : Seg w B gb ob nb cb y S) (hne : ga ≠ gb) (hy : 0 < y) (hyx : y ≤ x) (hS : S ≤ 9000000) :
    Calls Tryd.prog 53 #[.slice (some ⟨ga, oa, none⟩) na ca, .slice (some ⟨gb, ob, none⟩) nb cb] w fun e w' => ∃ a' n' c' z, e = .returned (.slice a' n' c') ∧ z < x ∧ Nat.gcd z y = Nat.gcd x y ∧ Seg w' B gb ob nb cb y S ∧ (z = 0 ∧ n' = 0 ∨ 0 < z ∧ 0 < n' ∧ ∃ g' o', a' = some ⟨g', o', none⟩ ∧ g' ≠ gb ∧ Seg w' B g' o' n' c' z S) ∧ Below B w w' := by
  have hBw : B ≤ w.heap.size := by have := hA.lt; omega
  by_cases hlt : nb < na
  · have hltI : (nb : Int) < (na : Int) := by omega
    have hnbS : nb ≤ S := by obtain ⟨us, _, _, h3, _, h5, _⟩ := hB; omega
    have hyl : (y : Int) < pw nb := by
      obtain ⟨us, h1, h2, h3, h4, h5, h6, h7, h8⟩ := hB
      have := val_lt (seg_w h6 ob nb)
      rw [h8, seg_list h3] at this
      exact this
    have HDV := divGx w hA.num hB.num (by omega) (by omega) (by omega : (0 : Int) < (y : Int))
    have HB : Hid (Seg w B gb ob nb cb y S) := hB
    have hgb := hB.lt.2
    clear hA hB
    go_enter Tryd.func53, Tryd.ntmps53
    go_wp2_with fail
    refine HDV.mono ?_
    rintro e w1 ⟨c, n, cc, c', n', cc', rfl, _, G2, _, hb, hcc⟩
    clear HDV
    have em : (x : Int) % (y : Int) = ((x % y : Nat) : Int) := (Int.natCast_emod x y).symm
    rw [em] at G2 hcc
    have hz := Nat.mod_lt x hy
    have hg : Nat.gcd (x % y) y = Nat.gcd x y := by rw [Nat.gcd_comm x y, Nat.gcd_rec y x]
    have hB1 := HB.out.below hb
    obtain ⟨z, hz'⟩ : ∃ z, x % y = z := ⟨_, rfl⟩
    rw [hz'] at G2 hcc hz hg
    have G3 := G2.shrink (m := nb) (by omega)
    have G4 := G3.le (S' := S) hnbS
    have HFIN : Hid (z = 0 ∧ n' = 0 ∨ 0 < z ∧ 0 < n' ∧ ∃ g' o', c' = some ⟨g', o', none⟩ ∧ g' ≠ gb ∧ Seg w1 B g' o' n' cc' z S) := by
      rcases Nat.eq_zero_or_pos z with h | h
      · subst h
        left
        refine ⟨rfl, ?_⟩
        obtain ⟨xs, g1, g2, g3, _⟩ := G2
        have := g1.reads.1
        have h0 := (tlen_zero g2.1).2 g3
        have := g2.2
        omega
      · right
        have e2 := hcc (by omega)
        subst e2
        obtain ⟨g', e3, h4, h5⟩ := seg_of_got G4 h
        refine ⟨h, ?_, g', 0, e3, by omega, ?_⟩
        · rcases Nat.eq_zero_or_pos n' with h0 | h0
          · subst h0
            obtain ⟨us, _, _, _, _, _, _, _, h8⟩ := h5
            simp [val, vS] at h8
            omega
          · exact h0
        · obtain ⟨us, i1, _, i3⟩ := h5
          exact ⟨us, i1, by omega, i3⟩
    have hbB := hb.mono hBw
    clear G2 G3 G4 em hz' hcc HB
    go_wp2
    go_ret
    exact ⟨_, _, _, z, rfl, by omega, hg, hB1, HFIN.out, hbB⟩
  · have hltI : ¬ (nb : Int) < (na : Int) := by omega
    have HB : Hid (Seg w B gb ob nb cb y S) := hB
    obtain ⟨us, h1, h2, h3, h4, h5, h6, h7, h8⟩ := hA
    obtain ⟨vs, k1, k2, k3, k4, k5, k6, k7, k8⟩ := hB
    have hna : nb ≤ na := by
      have g1 := val_lt (seg_w h6 oa na)
      rw [h8, seg_list h3] at g1
      have hnb0 : 0 < nb := by
        rcases Nat.eq_zero_or_pos nb with h | h
        · subst h; simp [val, vS] at k8; omega
        · exact h
      have g2 := val_ge (seg_w k6 ob nb) (by rw [k7]; exact hnb0)
      rw [k7, k8] at g2
      rcases Nat.lt_or_ge na nb with h | h
      · have := pw_mono (a := na) (b := nb - 1) (by omega)
        omega
      · exact h
    have hsv := sg_val h3
    rw [h8] at hsv
    obtain ⟨f1, f2, f3⟩ := subF_sg (ys := (vs.drop ob).take nb) h6 (seg_w k6 ob nb) h3 (by rw [seg_list k3]; exact hna) (by rw [k8, ← hsv]; omega)
    rw [k8, ← hsv] at f3
    have HTF := takeFrom_any ga oa na ca us (some ⟨gb, ob, none⟩) nb cb ((vs.drop ob).take nb) w h1 h3 (by omega) h6 (seg_list k3).symm hna (seg_reads k1 k3) (fun _ q hq => by cases hq; exact fun e => hne e.symm) (seg_w k6 ob nb) f1
    have hlU : (subF us oa na ((vs.drop ob).take nb)).1.length = us.length := length_subF _ _ _ _
    clear hltI
    have hltI : ¬ (nb : Int) < (na : Int) := by omega
    clear h1 h7 h8 k1 k2 k3 k4 k5 k6 k7 k8 hsv f1
    generalize (subF us oa na ((vs.drop ob).take nb)).1 = U at *
    go_enter Tryd.func53, Tryd.ntmps53
    go_wp2_with fail
    refine HTF.mono ?_
    rintro e w1 ⟨rfl, hU, hO⟩
    have hfit : oa + na ≤ U.length := by omega
    have hre := seg_reads hU hfit
    have HLL : Hid (na = ((U.drop oa).take na).length) := (seg_list hfit).symm
    have hval : val ((U.drop oa).take na) = ((x - y : Nat) : Int) := by rw [sg_val hfit, f3]; omega
    have hle : tlen ((U.drop oa).take na) ≤ na := by have := tl_le ((U.drop oa).take na) ((U.drop oa).take na).length; rw [← HLL.out] at this; unfold tlen; rw [← HLL.out]; exact this
    have hB1 := HB.out.off hO (fun e => hne e.symm)
    have hbB := hO.below h2
    have hg := gcd_less hyx
    obtain ⟨z, hz⟩ : ∃ z, x - y = z := ⟨_, rfl⟩
    have hzx : z < x := by omega
    rw [hz] at hval hg
    have HFIN : Hid (z = 0 ∧ tlen ((U.drop oa).take na) = 0 ∨ 0 < z ∧ 0 < tlen ((U.drop oa).take na) ∧ ∃ g' o', (some ⟨ga, oa, none⟩ : Option Addr) = some ⟨g', o', none⟩ ∧ g' ≠ gb ∧ Seg w1 B g' o' (tlen ((U.drop oa).take na)) ca z S) := by
      have hz0 := tlen_zero (seg_w f2 oa na)
      rw [hval] at hz0
      rcases Nat.eq_zero_or_pos z with h | h
      · left; exact ⟨h, hz0.2 (by omega)⟩
      · right
        have hn0 : tlen ((U.drop oa).take na) ≠ 0 := fun e => by have := hz0.1 e; omega
        refine ⟨h, by omega, ga, oa, rfl, hne, U, hU, h2, by omega, by omega, by omega, f2, ?_, ?_⟩
        · have e1 : (U.drop oa).take (tlen ((U.drop oa).take na)) = trimL ((U.drop oa).take na) := by
            unfold trimL
            rw [List.take_take, Nat.min_eq_left hle]
          rw [e1, tlen_trimL]
        · have e1 : (U.drop oa).take (tlen ((U.drop oa).take na)) = trimL ((U.drop oa).take na) := by
            unfold trimL
            rw [List.take_take, Nat.min_eq_left hle]
          rw [e1, val_trimL, hval]
    clear hU hO HB HTF f2 f3 hval hz
    go_wp2_with fail
    refine (trim_any (some ⟨ga, oa, none⟩) na ca ((U.drop oa).take na) w1 HLL.out h4 (by omega) hre).mono ?_
    rintro e wsame ⟨rfl, rfl⟩
    clear hre
    go_wp2
    go_ret
    exact ⟨_, _, _, z, rfl, hzx, hg, hB1, HFIN.out, hbB⟩
end Go.Proofs.YtogdpgfccbohnacDoor

import Derived.Test.YtjbcjapgammbhacDoorMem
import Derived.Test.YtjbcjapgammbhacDoorCmp
namespace Go.Proofs.YtjbcjapgammbhacDoor
open Go.RowKit

theorem length_trimL (xs : List Int) : (trimL xs).length = tlen xs := by
  have : tlen xs ≤ xs.length := tl_le _ _
  simp [trimL]; omega

/-- What tl is: beyond it nothing but noughts, and the last one below it isn't. -/
theorem tl_spec (xs : List Int) (n : Nat) : (∀ i, tl xs n ≤ i → i < n → lm xs i = 0) ∧ (0 < tl xs n → lm xs (tl xs n - 1) ≠ 0) := by
  induction n with
  | zero => simp [tl]
  | succ n ih =>
    unfold tl
    split
    · rename_i h
      refine ⟨fun i h1 h2 => ?_, ih.2⟩
      rcases Nat.lt_or_ge i n with h3 | h3
      · exact ih.1 i h1 h3
      · obtain rfl : i = n := by omega
        exact h
    · rename_i h
      exact ⟨fun i h1 h2 => by omega, fun _ => h⟩
theorem tl_unique (xs : List Int) (n k : Nat) (hk : k ≤ n) (h1 : ∀ i, k ≤ i → i < n → lm xs i = 0) (h2 : 0 < k → lm xs (k - 1) ≠ 0) : tl xs n = k := by
  obtain ⟨a, b⟩ := tl_spec xs n
  have hle := tl_le xs n
  rcases Nat.lt_trichotomy (tl xs n) k with h | h | h
  · exact absurd (a (k - 1) (by omega) (by omega)) (h2 (by omega))
  · exact h
  · exact absurd (h1 (tl xs n - 1) (by omega) (by omega)) (b (by omega))
theorem tlen_trimL (xs : List Int) : tlen (trimL xs) = tlen xs := by
  have hle : tlen xs ≤ xs.length := tl_le _ _
  obtain ⟨a, b⟩ := tl_spec xs xs.length
  unfold tlen
  rw [length_trimL]
  refine tl_unique _ _ _ (Nat.le_refl _) (fun i h1 h2 => by unfold tlen at h2; omega) (fun h => ?_)
  unfold trimL
  rw [lm_take (by unfold tlen; omega)]
  exact b h
theorem trimL_trimL (xs : List Int) : trimL (trimL xs) = trimL xs := by
  have : tlen (trimL xs) = (trimL xs).length := by rw [tlen_trimL, length_trimL]
  show (trimL xs).take (tlen (trimL xs)) = trimL xs
  rw [this, List.take_length]

set_option maxHeartbeats 1000000 in
theorem norm_any (a : Option Addr) (n cap : Nat) (xs : List Int) (w : World) (hn : n = xs.length) (hl : n ≤ cap) (hm : n ≤ 1099511627776) (hr : Reads w a xs) :
    Calls Tryd.prog 36 #[.slice a n cap] w fun e w' => ∃ g, e = .returned (.slice (some ⟨g, 0, none⟩) (tlen xs) (tlen xs)) ∧ w.heap.size ≤ g ∧ Blk w' g (trimL xs) ∧ Below w.heap.size w w' := by
  have ta : tlen xs ≤ xs.length := tl_le _ _
  subst hn
  have hlen := length_trimL xs
  have HL : Hid ((trimL xs).length = tlen xs) := hlen
  clear hlen
  go_enter Tryd.func36, Tryd.ntmps36
  go_wp2_with fail
  refine (trim_any a _ cap xs _ rfl hl hm hr).mono ?_
  rintro e w1 ⟨rfl, rfl⟩
  go_wp2_with (at_make; refine wpList_makeB _ rfl _ _ rfl _ _ (tlen xs) rfl rfl rfl rfl (by omega) ?_)
  intro w1 hb1 hbel1
  go_wp2_with (refine wpList_copyB rfl _ _ rfl w.heap.size _ _ _ _ a rfl rfl (List.replicate (tlen xs) 0) (trimL xs) hb1 ((hr.below hbel1).take _) HL.out.symm (by rw [HL.out]; exact Nat.le_refl _) (by simp) w.heap.size w hbel1 (Nat.le_refl _) ?_)
  intro w2 hb2 hbel2
  go_wp2
  go_ret
  refine ⟨_, rfl, Nat.le_refl _, ?_, hbel2⟩
  rw [HL.out] at hb2
  simpa using hb2

/-- All of them words. -/
def AllW (xs : List Int) : Prop := ∀ x ∈ xs, Word x
theorem AllW.at {xs : List Int} (h : AllW xs) (i : Nat) : 0 ≤ lm xs i ∧ lm xs i < 18446744073709551616 := by
  by_cases hi : i < xs.length
  · have := h (lm xs i) (List.mem_of_getElem? (lm_lt hi))
    exact this
  · rw [lm_ge (by omega)]; omega
theorem AllW.set {xs : List Int} (h : AllW xs) (i : Nat) (z : Int) (hz : Word z) : AllW (xs.set i z) := by
  intro x hx
  rcases List.mem_or_eq_of_mem_set hx with h1 | rfl
  · exact h x h1
  · exact hz
theorem AllW.take {xs : List Int} (h : AllW xs) (n : Nat) : AllW (xs.take n) := fun x hx => h x (List.mem_of_mem_take hx)
theorem AllW.drop {xs : List Int} (h : AllW xs) (n : Nat) : AllW (xs.drop n) := fun x hx => h x (List.mem_of_mem_drop hx)
theorem AllW.append {xs ys : List Int} (h : AllW xs) (k : AllW ys) : AllW (xs ++ ys) := fun x hx => (List.mem_append.1 hx).elim (h x) (k x)
theorem AllW.nil : AllW [] := fun x hx => by cases hx
theorem AllW.replicate (n : Nat) : AllW (List.replicate n 0) := fun x hx => by rw [List.eq_of_mem_replicate hx]; unfold Word; omega
theorem word_mod (x : Int) : Word (x % 18446744073709551616) := ⟨by omega, by omega⟩

/-- addTo's first loop, so many rounds of it: the block, and the carry. -/
def addR (us : List Int) (o : Nat) (ys : List Int) : Nat → List Int × Int
  | 0 => (us, 0)
  | k + 1 => ((addR us o ys k).1.set (o + k) ((lm (addR us o ys k).1 (o + k) + lm ys k + (addR us o ys k).2) % 18446744073709551616), (lm (addR us o ys k).1 (o + k) + lm ys k + (addR us o ys k).2) / 18446744073709551616)
theorem addR_ok {us ys : List Int} (o : Nat) (hu : AllW us) (hy : AllW ys) (k : Nat) : AllW (addR us o ys k).1 ∧ (addR us o ys k).1.length = us.length ∧ 0 ≤ (addR us o ys k).2 ∧ (addR us o ys k).2 ≤ 1 := by
  induction k with
  | zero => simp [addR, hu]
  | succ k ih =>
    obtain ⟨h1, h2, h3, h4⟩ := ih
    have a := h1.at (o + k)
    have b := hy.at k
    refine ⟨h1.set _ _ (word_mod _), by simp [addR, h2], ?_, ?_⟩ <;> simp only [addR] <;> omega
/-- Its second one, of f limbs at the most: the block behind it. -/
def rip (o n : Nat) : Nat → List Int → Int → List Int
  | 0, u, _ => u
  | f + 1, u, c => if 0 < c then rip o n f (u.set (o + (n - (f + 1))) ((lm u (o + (n - (f + 1))) + c) % 18446744073709551616)) ((lm u (o + (n - (f + 1))) + c) / 18446744073709551616) else u
def addF (us : List Int) (o n : Nat) (ys : List Int) : List Int := rip o n (n - ys.length) (addR us o ys ys.length).1 (addR us o ys ys.length).2

theorem rip_stop {o n i : Nat} {u : List Int} {c : Int} (h : n ≤ i ∨ ¬ 0 < c) : rip o n (n - i) u c = u := by
  rcases h with h | h
  · rw [show n - i = 0 by omega]; rfl
  · cases e : n - i with
    | zero => rfl
    | succ f => simp [rip, h]
theorem rip_step {o n i : Nat} {u : List Int} {c : Int} (h : i < n) (hc : 0 < c) : rip o n (n - i) u c = rip o n (n - (i + 1)) (u.set (o + i) ((lm u (o + i) + c) % 18446744073709551616)) ((lm u (o + i) + c) / 18446744073709551616) := by
  rw [show n - i = (n - (i + 1)) + 1 by omega]
  simp only [rip, if_pos hc]
  rw [show n - (n - (i + 1) + 1) = i by omega]

set_option maxHeartbeats 1000000 in
theorem addTo_any (g o n cap : Nat) (us : List Int) (b : Option Addr) (nb cb : Nat) (ys : List Int) (w : World) (hb : Blk w g us) (hfit : o + n ≤ us.length) (hm : us.length ≤ 1099511627776) (hu : AllW us)
    (hnb : nb = ys.length) (hle : nb ≤ n) (hr : Reads w b ys) (haw : ys ≠ [] → Away b g) (hy : AllW ys) :
    Calls Tryd.prog 38 #[.slice (some ⟨g, o, none⟩) n cap, .slice b nb cb] w fun e w' => e = .returned (.tuple #[]) ∧ Blk w' g (addF us o n ys) ∧ Off g w w' := by
  subst hnb
  go_enter Tryd.func38, Tryd.ntmps38
  go_wp2
  go_loopw [4, 10] (fun c i wr => ∃ k : Nat, k ≤ ys.length ∧ i = .int .i64 k ∧ c = .int .u64 (addR us o ys k).2 ∧ Blk wr g (addR us o ys k).1 ∧ Off g w wr) (fun _ i _ => ys.length - (intOf i).toNat)
  case atStart => exact ⟨0, Nat.zero_le _, rfl, rfl, hb, Off.refl _ _⟩
  case round =>
    obtain ⟨k, hk, rfl, rfl, hbr, hoff⟩ := hrel
    obtain ⟨ok1, ok2, ok3, ok4⟩ := addR_ok o hu hy k
    by_cases hlt : k < ys.length
    · obtain ⟨b2, o2, rfl, hc2⟩ := hr.at (by omega)
      have HN : Hid (addR us o ys (k + 1) = ((addR us o ys k).1.set (o + k) ((lm (addR us o ys k).1 (o + k) + lm ys k + (addR us o ys k).2) % 18446744073709551616), (lm (addR us o ys k).1 (o + k) + lm ys k + (addR us o ys k).2) / 18446744073709551616)) := rfl
      generalize hU : (addR us o ys k).1 = U at *
      generalize hC : (addR us o ys k).2 = C at *
      clear hU hC
      have HC2 : wr.cell? ⟨b2, o2 + k, none⟩ = some (.int .u64 (lm ys k)) := by rw [hoff.cell (p := ⟨b2, o2 + k, none⟩) (by exact haw (List.length_pos_iff.1 (by omega)) ⟨b2, o2, none⟩ rfl)]; exact hc2 k hlt
      have hcg := hbr.cell (i := o + k) (by omega)
      have hfg := hbr.frozen (o + k)
      have a1 := ok1.at (o + k)
      have a2 := hy.at k
      have HB := hbr.set (o + k) ((lm U (o + k) + lm ys k + C) % 18446744073709551616)
      have HO := hoff.set (o + k) (.int .u64 ((lm U (o + k) + lm ys k + C) % 18446744073709551616))
      obtain ⟨a10, a11⟩ := a1
      obtain ⟨a20, a21⟩ := a2
      have hkn : (k : Int) < (n : Int) := by omega
      clear hc2 hb hr haw hbr hoff
      go_wp2_with (simp only [add64 (lm U (o + k)) (lm ys k) C a10 a20 ok3 ok4])
      go_roundw
      case rel => exact ⟨k + 1, by omega, by go_num, by rw [HN.out], by rw [HN.out]; exact HB, HO⟩
      case measure => simp [intOf]; omega
    · obtain rfl : k = ys.length := by omega
      clear hlt
      have HF : Hid (addF us o n ys = rip o n (n - ys.length) (addR us o ys ys.length).1 (addR us o ys ys.length).2) := rfl
      generalize hU : (addR us o ys ys.length).1 = U at *
      generalize hC : (addR us o ys ys.length).2 = C at *
      clear hU hC
      clear hb
      go_wp2
      go_loopw [4, 7] (fun c i wr => ∃ (q : Nat) (V : List Int) (D : Int), i = .int .i64 q ∧ ys.length ≤ q ∧ q ≤ n ∧ c = .int .u64 D ∧ Blk wr g V ∧ Off g w wr ∧ rip o n (n - q) V D = addF us o n ys ∧ AllW V ∧ V.length = us.length ∧ 0 ≤ D ∧ D ≤ 1) (fun _ i _ => n - (intOf i).toNat)
      case atStart => exact ⟨_, U, C, rfl, Nat.le_refl _, hle, rfl, hbr, hoff, HF.out.symm, ok1, ok2, ok3, ok4⟩
      case round =>
        obtain ⟨q, V, D, rfl, hq1, hq2, rfl, hbv, hov, hrip, v1, v2, v3, v4⟩ := hrel
        have HR : Hid (rip o n (n - q) V D = addF us o n ys) := hrip
        clear hrip hbr hoff ok1 ok2 ok3 ok4
        by_cases hD : 0 < D
        · by_cases hqn : q < n
          · have hcg := hbv.cell (i := o + q) (by omega)
            have hfg := hbv.frozen (o + q)
            obtain ⟨a10, a11⟩ := v1.at (o + q)
            have HB := hbv.set (o + q) ((lm V (o + q) + D) % 18446744073709551616)
            have HO := hov.set (o + q) (.int .u64 ((lm V (o + q) + D) % 18446744073709551616))
            have HR2 : Hid (rip o n (n - (q + 1)) (V.set (o + q) ((lm V (o + q) + D) % 18446744073709551616)) ((lm V (o + q) + D) / 18446744073709551616) = addF us o n ys) := (rip_step hqn hD).symm.trans HR.out
            clear hbv hov HR
            go_wp2_with (simp only [add64_c (lm V (o + q)) D a10 v3 v4])
            go_roundw
            case rel => exact ⟨q + 1, _, _, by go_num, by omega, by omega, rfl, HB, HO, HR2.out, v1.set _ _ (word_mod _), by simp [v2], by omega, by omega⟩
            case measure => simp [intOf]; omega
          · have HR2 : Hid (V = addF us o n ys) := (rip_stop (.inl (by omega))).symm.trans HR.out
            go_wp2
            go_end0
            exact ⟨rfl, HR2.out ▸ hbv, hov⟩
        · have HR2 : Hid (V = addF us o n ys) := (rip_stop (.inr hD)).symm.trans HR.out
          have hDb : decide (0 < D) = false := by simpa using hD
          go_wp2
          go_end0
          exact ⟨rfl, HR2.out ▸ hbv, hov⟩

/-- The sum's limbs, ahead of the last cut. -/
def addL (xs ys : List Int) : List Int := if tlen xs < tlen ys then addF (trimL ys ++ [0]) 0 (tlen ys + 1) (trimL xs) else addF (trimL xs ++ [0]) 0 (tlen xs + 1) (trimL ys)
theorem length_rip (o n : Nat) : ∀ (f : Nat) (u : List Int) (c : Int), (rip o n f u c).length = u.length
  | 0, u, c => rfl
  | f + 1, u, c => by
    unfold rip
    split
    · rw [length_rip]; simp
    · rfl
theorem length_addR (us : List Int) (o : Nat) (ys : List Int) (k : Nat) : (addR us o ys k).1.length = us.length := by
  induction k with
  | zero => rfl
  | succ k ih => simp [addR, ih]
theorem length_addF (us : List Int) (o n : Nat) (ys : List Int) : (addF us o n ys).length = us.length := by
  unfold addF; rw [length_rip, length_addR]
theorem Blk.reads' {w : World} {g : Nat} {us : List Int} (h : Blk w g us) : Reads w (some ⟨g, 0, none⟩) us := by
  have := h.reads us.length
  rwa [List.take_length] at this

/-- What a call hands back: limbs us in new memory, without the noughts at the end. -/
def Res (w w' : World) (e : Ending) (us : List Int) : Prop :=
  ∃ g, e = .returned (.slice (some ⟨g, 0, none⟩) (tlen us) us.length) ∧ w.heap.size ≤ g ∧ Blk w' g us ∧ Below w.heap.size w w'

theorem rep_one (n : Nat) : List.replicate (n + 1 - n) (0 : Int) = [0] := by
  rw [show n + 1 - n = 1 by omega]; rfl
end Go.Proofs.YtjbcjapgammbhacDoor

import Derived.Test.YtfelogbfijomiabGreatDoorRow
namespace Go.Proofs.YtfelogbfijomiabGreatDoor
open Go.RowKit

/-- scale, so many rounds of it: the limbs, and the carry. -/
def sclR (xs : List Int) (d c : Int) : Nat → List Int × Int
  | 0 => (xs, c)
  | k + 1 => ((sclR xs d c k).1.set k ((lm (sclR xs d c k).1 k * d + (sclR xs d c k).2) % 18446744073709551616), (lm (sclR xs d c k).1 k * d + (sclR xs d c k).2) / 18446744073709551616)
theorem sclR_ok {xs : List Int} {d c : Int} (hx : AllW xs) (hd : Word d) (hc : Word c) (k : Nat) : AllW (sclR xs d c k).1 ∧ (sclR xs d c k).1.length = xs.length ∧ 0 ≤ (sclR xs d c k).2 ∧ (sclR xs d c k).2 < 18446744073709551616 := by
  induction k with
  | zero => exact ⟨hx, rfl, hc.1, hc.2⟩
  | succ k ih =>
    obtain ⟨h1, h2, h3, h4⟩ := ih
    have a := h1.at k
    have b := mul_bd a.1 a.2 hd.1 hd.2
    refine ⟨h1.set _ _ (word_mod _), by simp [sclR, h2], ?_, ?_⟩ <;> simp only [sclR] <;> omega
theorem sclR_far (xs : List Int) (d c : Int) (k i : Nat) (h : k ≤ i) : lm (sclR xs d c k).1 i = lm xs i := by
  induction k with
  | zero => rfl
  | succ k ih => simp only [sclR]; rw [lm_set, if_neg (by omega), ih (by omega)]
theorem sclR_val {xs : List Int} {d c : Int} (hx : AllW xs) (hd : Word d) (hc : Word c) (k : Nat) (h : k ≤ xs.length) : vS (sclR xs d c k).1 k + (sclR xs d c k).2 * pw k = vS xs k * d + c := by
  induction k with
  | zero => simp [sclR, vS, pw]
  | succ k ih =>
    have ih := ih (by omega)
    obtain ⟨h1, h2, h3, h4⟩ := sclR_ok hx hd hc k
    have hf := sclR_far xs d c k k (Nat.le_refl _)
    simp only [sclR, vS]
    generalize (sclR xs d c k).1 = U at *
    generalize (sclR xs d c k).2 = C at *
    rw [vS_set_ge (Nat.le_refl _), lm_set, if_pos ⟨rfl, by omega⟩, hf, pw_succ]
    have e1 := mod_mul (lm xs k * d + C) (pw k)
    rw [Int.add_mul] at e1
    have e2 : (vS xs k + lm xs k * pw k) * d = vS xs k * d + lm xs k * d * pw k := by rw [Int.add_mul, Int.mul_right_comm]
    rw [e2]
    generalize (lm xs k * d + C) % 18446744073709551616 * pw k = A at *
    generalize (lm xs k * d + C) / 18446744073709551616 * (pw k * 18446744073709551616) = D at *
    omega
def sclL (xs : List Int) (d c : Int) : List Int := if 0 < (sclR xs d c xs.length).2 then (sclR xs d c xs.length).1 ++ [(sclR xs d c xs.length).2] else (sclR xs d c xs.length).1
theorem val_snoc' (xs : List Int) (c : Int) : val (xs ++ [c]) = val xs + c * pw xs.length := by
  unfold val
  rw [List.length_append]
  show vS (xs ++ [c]) (xs.length + 1) = _
  simp only [vS]
  rw [lm_append_right (Nat.le_refl _)]
  have : vS (xs ++ [c]) xs.length = vS xs xs.length := vS_congr fun i hi => lm_append_left hi
  rw [this]
  simp [lm]
theorem sclL_val {xs : List Int} {d c : Int} (hx : AllW xs) (hd : Word d) (hc : Word c) : AllW (sclL xs d c) ∧ val (sclL xs d c) = val xs * d + c ∧ (sclL xs d c).length ≤ xs.length + 1 := by
  obtain ⟨h1, h2, h3, h4⟩ := sclR_ok hx hd hc xs.length
  have hv := sclR_val hx hd hc xs.length (Nat.le_refl _)
  unfold sclL
  have e1 : vS (sclR xs d c xs.length).1 xs.length = val (sclR xs d c xs.length).1 := vS_long (by omega)
  rw [e1] at hv
  show _ ∧ _ = val xs * d + c ∧ _
  have e2 : vS xs xs.length = val xs := rfl
  rw [e2] at hv
  split
  · refine ⟨h1.append (fun x hx => by simp at hx; subst hx; exact ⟨h3, h4⟩), ?_, by simp [h2]⟩
    rw [val_snoc', h2]; exact hv
  · rename_i h0
    have : (sclR xs d c xs.length).2 = 0 := by omega
    rw [this] at hv
    exact ⟨h1, by omega, by omega⟩

theorem ms_hi (p c : Int) : p / 18446744073709551616 + (p % 18446744073709551616 + c) / 18446744073709551616 = (p + c) / 18446744073709551616 := by omega

set_option maxHeartbeats 1000000 in
theorem scale_any (a : Option Addr) (n cap : Nat) (xs : List Int) (d c : Int) (w : World) (B : Nat) (ho : OwnV w B (.slice a n cap) xs) (hB : B ≤ w.heap.size) (hm : n ≤ 1000000000) (hx : AllW xs) (hd : Word d) (hc : Word c) :
    Calls Tryz.prog 118 #[.slice a n cap, .int .u64 d, .int .u64 c] w fun e w' => ∃ a' n' cap', e = .returned (.slice a' n' cap') ∧ OwnV w' B (.slice a' n' cap') (sclL xs d c) ∧ Below B w w' := by
  obtain ⟨hn, _, _⟩ := ho.reads
  have Hn : Hid (n = xs.length) := hn
  have HS : Hid (sclL xs d c = if 0 < (sclR xs d c n).2 then (sclR xs d c n).1 ++ [(sclR xs d c n).2] else (sclR xs d c n).1) := by show _ = _; rw [hn]; rfl
  obtain ⟨d0, d1⟩ := hd
  clear hn
  go_enter Tryz.func118, Tryz.ntmps118
  go_wp2
  go_loopw [7, 16] (fun s i wr => ∃ k : Nat, k ≤ n ∧ i = .int .i64 k ∧ s = .int .u64 (sclR xs d c k).2 ∧ OwnV wr B (.slice a n cap) (sclR xs d c k).1 ∧ Below B w wr) (fun _ i _ => n - (intOf i).toNat)
  case atStart => exact ⟨0, Nat.zero_le _, rfl, rfl, ho, Below.refl _ _⟩
  case round =>
    obtain ⟨k, hk, rfl, rfl, hor, hbel⟩ := hrel
    obtain ⟨ok1, ok2, ok3, ok4⟩ := sclR_ok hx ⟨d0, d1⟩ hc k
    by_cases hlt : k < n
    · obtain ⟨g, rfl, hr⟩ := own_some hor (by omega)
      have hBg : B ≤ g := (hor.lt g rfl).1
      have HN : Hid (sclR xs d c (k + 1) = ((sclR xs d c k).1.set k ((lm (sclR xs d c k).1 k * d + (sclR xs d c k).2) % 18446744073709551616), (lm (sclR xs d c k).1 k * d + (sclR xs d c k).2) / 18446744073709551616)) := rfl
      have hlen : (sclR xs d c k).1.length = n := by rw [ok2]; exact Hn.out.symm
      have HLEN : Hid ((sclR xs d c k).1.length = n) := hlen
      generalize hU : (sclR xs d c k).1 = U at *
      generalize hC : (sclR xs d c k).2 = C at *
      clear hU hC
      have hcg := hr.cell (i := k) (by omega)
      have hfg := hr.frozen k
      obtain ⟨a10, a11⟩ := ok1.at k
      have hpb := mul_bd a10 a11 d0 d1
      obtain ⟨p, hp⟩ : ∃ p, lm U k * d = p := ⟨_, rfl⟩
      rw [hp] at hpb HN
      have HP : Hid (lm U k * d = p) := hp
      obtain ⟨p0, p1⟩ := hpb
      have HB := (hr.set k ((p + C) % 18446744073709551616)).own hBg
      rw [List.length_set, HLEN.out] at HB
      have HO := hbel.setCell (p := ⟨g, k, none⟩) hBg (.int .u64 ((p + C) % 18446744073709551616))
      have hkn : (k : Int) < (n : Int) := by omega
      have q0 : 0 ≤ p % 18446744073709551616 := by omega
      clear hp hr hor hbel hlen
      go_wp2_with (first | (go_at_call 129; refine (mul64_any _ _ p HP a10 a11 d0 d1 _).mono ?_; rintro e w' ⟨rfl, rfl⟩) | simp only [add64_0 (p % 18446744073709551616) C q0 ok3])
      go_roundw
      case rel => exact ⟨k + 1, by omega, by go_num, by rw [HN.out, ms_hi p C], by rw [HN.out]; exact HB, HO⟩
      case measure => simp [intOf]; omega
    · obtain rfl : k = n := by omega
      have HK : Hid ((sclR xs d c k).1.length = k) := by show _ = _; rw [ok2]; exact Hn.out.symm
      have hsz := hbel.size
      generalize hU : (sclR xs d c k).1 = U at *
      generalize hC : (sclR xs d c k).2 = C at *
      clear hU hC hlt
      by_cases hC0 : 0 < C
      · have HS2 : Hid (sclL xs d c = U ++ [C]) := by show _ = _; rw [HS.out, if_pos hC0]
        have hrow : ∀ q, (Value.slice a k cap).ownBlock = some q → B ≤ q := fun q hq => (hor.lt q hq).1
        go_wp2_with (at_builtin; refine wpList_append1 26 Tryz.underlying26 _ rfl _ _ rfl B (.slice a k cap) U k HK rfl (hor.alloc _) wr.heap.size _ C rfl (cell_new1 rfl) (by omega) (by simp; omega) (wr.heap.size + 1) (by simp) ?_)
        intro g cap1 w1 hown1 hgrow _ _
        have hbel1 : Below B w w1 := hbel.trans (((Below.refl _ _).alloc (by omega) _).trans (grown_below hgrow (by simp; omega) hrow))
        rw [← HS2.out] at hown1
        clear hgrow hor
        go_wp2
        go_ret
        exact ⟨_, _, _, rfl, hown1, hbel1⟩
      · have HS2 : Hid (sclL xs d c = U) := by show _ = _; rw [HS.out, if_neg hC0]
        have t1 : decide (0 < C) = false := by simpa using hC0
        rw [← HS2.out] at hor
        go_wp2
        go_ret
        exact ⟨_, _, _, rfl, hor, hbel⟩
end Go.Proofs.YtfelogbfijomiabGreatDoor

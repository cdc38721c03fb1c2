import Derived.Test.YtkbbdfflodiddabDoorSumI0
namespace Go.Proofs.YtkbbdfflodiddabDoor
open Go.RowKit

def isum (X : Nat → Int) : Nat → Int
  | 0 => 0
  | k + 1 => isum X k + X k
theorem isum_le {X : Nat → Int} {M : Int} : ∀ {n : Nat}, (∀ i, i < n → ((X i).natAbs : Int) ≤ M) → ((isum X n).natAbs : Int) ≤ n * M := by
  intro n
  induction n with
  | zero => intro _; simp [isum]
  | succ n ih =>
    intro h
    have h1 := ih fun i hi => h i (by omega)
    have h2 := h n (by omega)
    have e : ((n + 1 : Nat) : Int) * M = n * M + M := by rw [Int.natCast_add, Int.add_mul]; simp
    rw [e]
    show ((isum X n + X n).natAbs : Int) ≤ _
    omega
theorem isum_pw {X : Nat → Int} {S n : Nat} (hn : n ≤ 1000000000000) (h : ∀ i, i < n → ((X i).natAbs : Int) < pw S) : ((isum X n).natAbs : Int) < pw (S + 1) := by
  have h1 := isum_le (X := X) (M := pw S) (n := n) fun i hi => Int.le_of_lt (h i hi)
  have h2 := pw_pos S
  have h3 : (n : Int) * pw S ≤ 1000000000000 * pw S := Int.mul_le_mul_of_nonneg_right (by omega) (by omega)
  rw [pw_succ]
  omega
theorem Below.size_le {B : Nat} {w w' : World} (h : Below B w w') : w.heap.size ≤ w'.heap.size := h.size

set_option maxHeartbeats 1000000 in
theorem sumI0 (g cap n : Nat) (P : Nat → Bool) (A : Nat → Option Addr) (N C : Nat → Nat) (X : Nat → Int) (S : Nat) (w : World) (hc : ∀ i, i < n → w.cell? ⟨g, i * 2, none⟩ = some (.bool (P i)) ∧ w.cell? ⟨g, i * 2 + 1, none⟩ = some (.slice (A i) (N i) (C i)))
    (hx : ∀ i, i < n → TI w (P i) (A i) (N i) (C i) (X i) S) (hn : n ≤ 1000000000000) (hS : S ≤ 5000000) :
    Calls Tryd.prog 11 #[.slice (some ⟨g, 0, none⟩) n cap] w fun e w' => ∃ v, e = .returned v ∧ GI w' w.heap.size v (isum X n) (S + 1) ∧ Below w.heap.size w w' := by
  have HP : Hid (∀ k, k ≤ n → ((isum X k).natAbs : Int) < pw (S + 1)) := fun k hk => isum_pw (by omega) fun i hi => (hx i (by omega)).lt
  obtain ⟨R0, V0, hb0, hsz⟩ := box2 w (.bool false) (.slice none 0 0) (.bool false) (.slice none 0 0) 30
  go_enter Tryd.func11, Tryd.ntmps11
  go_wp2_with fail
  generalize (w.alloc (.cells #[.bool false, .slice none 0 0] 30)).alloc (.cells #[.bool false, .slice none 0 0] 30) = W0 at *
  go_loopw [8] (fun s wr => ∃ (k : Nat) (f : Bool) (c : Option Addr) (m d : Nat), k ≤ n ∧ s = .int .i64 k ∧ Var2 wr (w.heap.size + 1) (.bool f) (.slice c m d) ∧ Var2 wr w.heap.size (.bool false) (.slice none 0 0) ∧ GI wr (w.heap.size + 2) (.agg #[.bool f, .slice c m d]) (isum X k) (S + 1) ∧ Below w.heap.size w wr ∧ w.heap.size + 2 ≤ wr.heap.size) (fun t _ => n - (intOf t).toNat)
  case atStart => exact ⟨0, false, none, 0, 0, Nat.zero_le _, rfl, V0, R0, (GI.nil _ _).le (by omega), hb0, by omega⟩
  case round =>
    obtain ⟨k, f, c, m, d, hk, rfl, V, R, G, hbel, hsw⟩ := hrel
    by_cases hlt : k < n
    · have hkI : (k : Int) < (n : Int) := by omega
      obtain ⟨c0, c1⟩ := hc k hlt
      replace c0 := kept_c (hbel.mono (Nat.le_refl _)) c0
      replace c1 := kept_c (hbel.mono (Nat.le_refl _)) c1
      have hT := (hx k hlt).below hbel
      have hkI2 : (k : Int) * 2 = ((k * 2 : Nat) : Int) := by omega
      have P1 : Hid (isum X k + X k = isum X (k + 1)) := rfl
      have hlt2 := HP.out (k + 1) (by omega)
      clear hc hx
      obtain ⟨Z, hz, hzs⟩ := box1 wr (.bool (P k)) (.slice (A k) (N k) (C k)) 30
      replace V := V.below hz
      replace R := R.below hz
      replace G := G.below hz
      replace hT := hT.below hz
      replace hbel := hbel.trans (hz.mono hbel.size)
      obtain ⟨z0, z1, z2, z3⟩ := id Z
      obtain ⟨v0, v1, v2, v3⟩ := id V
      go_wp2_with fail
      generalize wr.alloc (.cells #[.bool (P k), .slice (A k) (N k) (C k)] 30) = W1 at *
      refine (addT _ G.ti hT (by omega) (by omega)).mono ?_
      rintro e w1 ⟨f1, c1', n1, d1, rfl, G1, hb1⟩
      replace V := V.below hb1
      replace R := R.below hb1
      replace hbel := hbel.trans (hb1.mono hbel.size)
      have hs1 := hb1.size
      replace G1 := G1.shrink hlt2
      clear v0 v1 v2 v3 z0 z1 z2 z3 Z c0 c1 hz hb1 hT G
      obtain ⟨v0, v1, v2, v3⟩ := id V
      obtain ⟨V', O⟩ := V.set (.bool f1) (.slice c1' n1 d1)
      have R' := R.off O (by omega)
      have G' := (G1.off O (by omega)).mono (B' := w.heap.size + 2) (by omega)
      have hbel' : Below w.heap.size w _ := hbel.trans (O.below (by omega))
      have hs2 := O.size
      clear V R G1 hbel O
      go_wp2
      go_roundw
      case rel => exact ⟨k + 1, f1, c1', n1, d1, by omega, by go_num, V', R', G', hbel', by omega⟩
      case measure => simp [intOf]; omega
    · have hkI : ¬ (k : Int) < (n : Int) := by omega
      obtain rfl : k = n := by omega
      obtain ⟨v0, v1, v2, v3⟩ := id V
      obtain ⟨r0, r1, r2, r3⟩ := id R
      obtain ⟨VV, O⟩ := R.set (.bool f) (.slice c m d)
      go_wp2
      refine bodyPost_ret (v := .agg #[.bool f, .slice c m d]) (by simp [results, Tryd.results11, go_sem, VV.c0, VV.c1]) rfl ⟨_, rfl, ((G.off O (by omega)).mono (by omega)), hbel.trans (O.below (by omega))⟩
theorem sumT (g cap n : Nat) (P : Nat → Bool) (A : Nat → Option Addr) (N C : Nat → Nat) (X : Nat → Int) (S : Nat) (w : World) (hc : ∀ i, i < n → w.cell? ⟨g, i * 2, none⟩ = some (.bool (P i)) ∧ w.cell? ⟨g, i * 2 + 1, none⟩ = some (.slice (A i) (N i) (C i)))
    (hx : ∀ i, i < n → TI w (P i) (A i) (N i) (C i) (X i) S) (hn : n ≤ 1000000000000) (hS : S ≤ 5000000) :
    Calls Tryd.prog 11 #[.slice (some ⟨g, 0, none⟩) n cap] w fun e w' => ∃ f c k d, e = .returned (.agg #[.bool f, .slice c k d]) ∧ GI w' w.heap.size (.agg #[.bool f, .slice c k d]) (isum X n) (S + 1) ∧ Below w.heap.size w w' := by
  refine (sumI0 g cap n P A N C X S w hc hx hn hS).mono ?_
  rintro e w' ⟨v, rfl, G, hb⟩
  obtain ⟨f, c, n, d, rfl⟩ := G.form
  exact ⟨f, c, n, d, rfl, G, hb⟩
end Go.Proofs.YtkbbdfflodiddabDoor

import Derived.Test.YtbkkepbmaadomaaGreatDoorRefNAll
import Derived.Test.YtbkkepbmaadomaaGreatDoorShift
namespace Go.Proofs.YtbkkepbmaadomaaGreatDoor
open Go.RowKit

theorem pwH2 (k : Nat) : pwH k = 2 ^ (32 * k) := by unfold pwH; rw [Int.pow_mul]; rfl
theorem vH_split (xs : List Int) (q k : Nat) : vH xs (q + k) = vH xs q + pwH q * vH (xs.drop q) k := by
  induction k with
  | zero => simp [vH]
  | succ k ih =>
    show vH xs (q + k) + lm xs (q + k) * pwH (q + k) = _ + pwH q * (vH (xs.drop q) k + lm (xs.drop q) k * pwH k)
    rw [ih, lm_drop, pwH_add, Int.mul_add, Int.add_assoc]
    congr 2
    ac_rfl
theorem valH_drop {xs : List Int} (hx : AllH xs) {q : Nat} (hq : q ≤ xs.length) : valH (xs.drop q) = valH xs / pwH q := by
  have e := vH_split xs q (xs.length - q)
  rw [show q + (xs.length - q) = xs.length by omega] at e
  have e2 : vH (xs.drop q) (xs.length - q) = valH (xs.drop q) := by unfold valH; rw [List.length_drop]
  rw [e2] at e
  have h := vH_nn hx q
  have hp := pwH_pos q
  show _ = vH xs xs.length / pwH q
  rw [e, Int.add_mul_ediv_left _ _ (by omega), Int.ediv_eq_zero_of_lt h.1 h.2]
  omega
theorem valH_zeros (q : Nat) (ts : List Int) : valH (List.replicate q 0 ++ ts) = pwH q * valH ts := by
  unfold valH
  rw [List.length_append, List.length_replicate, vH_split, List.drop_left' (by simp), vH_congr (us := List.replicate q 0 ++ ts) (vs := []) (n := q) (fun i hi => by rw [lm_append_left (by simpa using hi), lm_replicate, lm_ge (by simp)]), vH_long (us := []) (by simp)]
  simp [valH, vH]
theorem shrH_zero {hs : List Int} (hx : AllH hs) {n : Nat} (h : hs.length ≤ n / 32) : valH hs / 2 ^ n = 0 := by
  refine Int.ediv_eq_zero_of_lt (valH_nn hx) (Int.lt_of_lt_of_le (valH_lt hx) ?_)
  rw [pwH2]
  exact pow2_mono (by omega)
theorem shrH_two (x : Int) (n : Nat) : x / pwH (n / 32) / 2 ^ (n % 32) = x / 2 ^ n := by
  rw [pwH2, Int.ediv_ediv_of_nonneg (Int.le_of_lt (Int.pow_pos (by decide))), ← Int.pow_add]
  congr 2
  omega
theorem shlH_two (x : Int) (n : Nat) : pwH (n / 32) * (x * 2 ^ (n % 32)) = x * 2 ^ n := by
  rw [Int.mul_comm, Int.mul_assoc, pwH2, ← Int.pow_add]
  congr 2
  omega
theorem two_lt {k : Nat} (h : k < 32) : (0 : Int) < 2 ^ k ∧ (2 : Int) ^ k ≤ 2147483648 := by
  refine ⟨Int.pow_pos (by decide), ?_⟩
  have := pow2_mono (a := k) (b := 31) (by omega)
  simpa using this

set_option maxRecDepth 100000 in
set_option maxHeartbeats 1000000 in
theorem rshlG {a : Option Addr} {na ca : Nat} {x : Int} {S : Nat} (n : Nat) (w0 : World) (ha : Num w0 a na ca x S) (hS : S ≤ 10000000) (hn : n ≤ 65536) :
    Calls Tryz.prog 49 #[.slice a na ca, .int .i64 n] w0 fun e w' => ∃ c m cc, e = .returned (.slice c m cc) ∧ Got w' w0.heap.size (.slice c m cc) (x * 2 ^ n) 30000000 ∧ Below w0.heap.size w0 w' := by
  obtain ⟨q, hq⟩ : ∃ q, n / 32 = q := ⟨_, rfl⟩
  obtain ⟨s, hs⟩ : ∃ s, n % 32 = s := ⟨_, rfl⟩
  have hs32 : s < 32 := by omega
  have D3 : (n : Int).tdiv 32 = (q : Int) := by rw [Int.tdiv_eq_ediv_of_nonneg (by omega)]; omega
  have D4 : (n : Int).tmod 32 = (s : Int) := by rw [Int.tmod_eq_emod_of_nonneg (by omega)]; omega
  have D1 : (n : Int) / 32 = (q : Int) := by omega
  have D2 : (n : Int) % 32 = (s : Int) := by omega
  have hqn : q ≤ 2048 := by omega
  have HQ : Hid (n / 32 = q) := hq
  have HS : Hid (n % 32 = s) := hs
  clear hq hs
  go_enter Tryz.func49, Tryz.ntmps49
  go_wp2_with fail
  refine (halvesV _ ha (by omega)).mono ?_
  rintro e w ⟨h, hn', hc', rfl, H1, hb1⟩
  clear ha
  by_cases h0 : hn' = 0
  · subst h0
    have hz : Hid (x * 2 ^ n = 0) := by
      obtain ⟨hs, g1, _, _, _, g5, _⟩ := H1
      have : hs = [] := List.eq_nil_of_length_eq_zero g1.symm
      subst this
      simp [valH, vH] at g5
      show _ = _
      rw [← g5]; simp
    have hG : Got w w0.heap.size (.slice none 0 0) (x * 2 ^ n) 30000000 := by rw [hz.out]; exact (Got.nil w w0.heap.size).le (Nat.zero_le _)
    clear H1
    go_wp2
    go_ret
    exact ⟨_, _, _, rfl, hG, hb1⟩
  · have h0' : ((hn' : Int) == 0) = false := beq_eq_false_iff_ne.2 (by omega)
    clear h0
    go_wp2
    go_loopw [6, 7] (fun v t wr => ∃ k : Nat, k ≤ q ∧ t = .int .i64 k ∧ OwnV wr w.heap.size v (List.replicate k 0) ∧ Below w.heap.size w wr) (fun _ t _ => q - (intOf t).toNat)
    case atStart => exact ⟨0, Nat.zero_le _, rfl, OwnV.nil _ _, Below.refl _ _⟩
    case round =>
      obtain ⟨k, hk, rfl, hown, hbel⟩ := hrel
      have hsz := hbel.size
      by_cases hlt : k < q
      · have hkq : (k : Int) < (q : Int) := by omega
        have hrow : ∀ g, u6.ownBlock = some g → w.heap.size ≤ g := fun g hg => (hown.lt g hg).1
        have HL : Hid ((List.replicate k (0 : Int)).length = k) := by show _ = _; simp
        go_wp2_with (at_builtin; refine wpList_append1 30 Tryz.underlying30 _ rfl _ _ rfl w.heap.size u6 (List.replicate k 0) k HL rfl (hown.alloc _) wr.heap.size _ 0 rfl (cell_new1 rfl) (by omega) (by simp; omega) (wr.heap.size + 1) (by simp) ?_)
        intro g cap1 w1 hown1 hgrow _ _
        have hbel1 : Below w.heap.size w w1 := hbel.trans (((Below.refl _ _).alloc (by omega) _).trans (grown_below hgrow (by simp; omega) hrow))
        have HR : Hid (List.replicate k (0 : Int) ++ [0] = List.replicate (k + 1) 0) := List.replicate_succ'.symm
        rw [HR.out] at hown1
        clear hgrow hown
        go_wp2
        go_roundw
        case rel => exact ⟨k + 1, by omega, by go_num, hown1, hbel1⟩
        case measure => simp [intOf]; omega
      · have hkq : ¬ (k : Int) < (q : Int) := by omega
        obtain rfl : k = q := by omega
        go_wp2
        go_loopw [8, 9] (fun v t w' => w' = wr ∧ ∃ j : Nat, j ≤ s ∧ t = .int .i64 j ∧ v = .int .u64 (2 ^ j)) (fun _ t _ => s - (intOf t).toNat)
        case atStart => exact ⟨rfl, 0, Nat.zero_le _, rfl, rfl⟩
        case round =>
          obtain ⟨rfl, j, hj, rfl, rfl⟩ := hrel
          by_cases hlt2 : j < s
          · have hjs : (j : Int) < (s : Int) := by omega
            obtain ⟨p0, p1⟩ := two_lt (k := j) (by omega)
            have HP : Hid ((2 : Int) ^ (j + 1) = 2 ^ j * 2) := Int.pow_succ _ _
            generalize (2 : Int) ^ j = p at *
            go_wp2
            go_roundw
            case rel => exact ⟨trivial, j + 1, by omega, by go_num, by rw [HP.out]⟩
            case measure => simp [intOf]; omega
          · have hjs : ¬ (j : Int) < (s : Int) := by omega
            obtain rfl : j = s := by omega
            obtain ⟨p0, p1⟩ := two_lt (k := j) hs32
            obtain ⟨p, hp⟩ : ∃ p, (2 : Int) ^ j = p := ⟨_, rfl⟩
            have HP : Hid ((2 : Int) ^ j = p) := hp
            rw [hp] at p0 p1
            rw [hp]
            clear hp
            have H1r := H1.below hbel
            go_wp2_with fail
            refine (rtimesV _ H1r (by omega) (by omega) (by omega)).mono ?_
            rintro e w5 ⟨tb, tn, tc, rfl, H5, hb5⟩
            have hown5 := hown.below hb5
            have hbel5 := bel_tr hbel hb5
            have hsz5 := hbel5.size
            have hrow : ∀ g, u6.ownBlock = some g → w.heap.size ≤ g := fun g hg => (hown.lt g hg).1
            obtain ⟨ts, t1, t2, hrt, hth, t5, t6, _⟩ := H5
            have HT1 : Hid (tn = ts.length) := t1
            have HT5 : Hid (valH ts = x * p) := t5
            clear hown hbel hb5 H1r t1 t5
            go_wp2_with (at_builtin; refine wpList_appendL 30 Tryz.underlying30 _ rfl _ _ rfl w.heap.size u6 (List.replicate k 0) rfl hown5 tb tn tc ts rfl HT1.out hrt (by simp; omega) (by omega) ?_)
            intro va w6 hown6 hgrow6
            have hbel6 : Below w.heap.size w w6 := hbel5.trans (grown_below hgrow6 (by omega) hrow)
            have LZ : Hid ((List.replicate k (0 : Int) ++ ts).length = k + tn) := by show _ = _; rw [HT1.out]; simp
            obtain ⟨va', vc', rfl⟩ := own_form hown6 LZ.out
            obtain ⟨g1, g2, g3⟩ := hown6.reads
            have HV : Hid (valH (List.replicate k (0 : Int) ++ ts) = x * 2 ^ n) := by
              show _ = _
              rw [valH_zeros, HT5.out, ← HP.out, ← HQ.out, ← HS.out]; exact shlH_two x n
            clear hown5 hbel5 hgrow6 hown6 hrt g1
            go_wp2_with fail
            refine (numberL (List.replicate k (0 : Int) ++ ts) w6 LZ.out.symm g2 (by omega) g3 (AllH.append (AllH.replicate _) hth) 30000000 (by omega)).mono ?_
            rintro e w7 ⟨c7, n7, k7, rfl, H7, hb7⟩
            have HB7 := bel_tr (bel_tr hb1 hbel6) hb7
            have G7 := H7.mono (B' := w0.heap.size) (by have := hb1.size; have := hbel6.size; omega)
            rw [HV.out] at G7
            clear H7 hb7 hbel6 hb1 g2 g3
            go_wp2
            go_ret
            exact ⟨_, _, _, rfl, G7, HB7⟩

theorem num_new1 (w : World) {d : Int} (h0 : 0 ≤ d) (h1 : d < 18446744073709551616) : Num (w.alloc (.cells #[Value.int .u64 d] 22)) (some ⟨w.heap.size, 0, none⟩) 1 1 d 1 := by
  have h : Blk (w.alloc (.cells #[Value.int .u64 d] 22)) w.heap.size [d] := blk_new [d]
  refine ⟨[d], rfl, Nat.le_refl _, by simpa using h.reads 1, fun x hx => by simp at hx; subst hx; exact ⟨h0, h1⟩, by simp [val, vS, lm, pw], Nat.le_refl _⟩

end Go.Proofs.YtbkkepbmaadomaaGreatDoor

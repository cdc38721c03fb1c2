import Derived.Test.YtbkkepbmaadomaaGreatDoorDivAll
import Derived.Test.YtbkkepbmaadomaaGreatDoorNumAll
namespace Go.Proofs.YtbkkepbmaadomaaGreatDoor
open Go.RowKit

theorem vS_split (xs : List Int) (q k : Nat) : vS xs (q + k) = vS xs q + pw q * vS (xs.drop q) k := by
  induction k with
  | zero => simp [vS]
  | succ k ih =>
    show vS xs (q + k) + lm xs (q + k) * pw (q + k) = _ + pw q * (vS (xs.drop q) k + lm (xs.drop q) k * pw k)
    rw [ih, lm_drop, pw_add, Int.mul_add, Int.add_assoc]
    congr 2
    ac_rfl
theorem val_drop {xs : List Int} (hx : AllW xs) {q : Nat} (hq : q ≤ xs.length) : val (xs.drop q) = val xs / pw q := by
  have e := vS_split xs q (xs.length - q)
  rw [show q + (xs.length - q) = xs.length by omega] at e
  have e2 : vS (xs.drop q) (xs.length - q) = val (xs.drop q) := by unfold val; rw [List.length_drop]
  rw [e2] at e
  have h := vS_nn hx q
  have hp := pw_pos q
  show _ = vS xs xs.length / pw q
  rw [e, Int.add_mul_ediv_left _ _ (by omega), Int.ediv_eq_zero_of_lt h.1 h.2]
  omega
theorem allW_drop {xs : List Int} (hx : AllW xs) (q : Nat) : AllW (xs.drop q) := fun x h => hx x (List.mem_of_mem_drop h)
theorem pow2_mono {a b : Nat} (h : a ≤ b) : (2 : Int) ^ a ≤ 2 ^ b := by
  obtain ⟨r, rfl⟩ := Nat.le.dest h
  rw [Int.pow_add]
  have h1 : (0 : Int) < 2 ^ a := Int.pow_pos (by decide)
  have h2 : (0 : Int) < 2 ^ r := Int.pow_pos (by decide)
  have h3 := Int.mul_le_mul_of_nonneg_left (a := 1) (b := 2 ^ r) (c := 2 ^ a) (by omega) (by omega)
  rw [Int.mul_one] at h3
  exact h3
theorem shr_zero {xs : List Int} (hx : AllW xs) {n : Nat} (h : xs.length ≤ n / 64) : val xs / 2 ^ n = 0 := by
  refine Int.ediv_eq_zero_of_lt (val_nn hx) (Int.lt_of_lt_of_le (val_lt hx) ?_)
  rw [pw2]
  exact pow2_mono (by omega)
theorem shr_two (x : Int) (n : Nat) : x / pw (n / 64) / 2 ^ (n % 64) = x / 2 ^ n := by
  rw [pw2, Int.ediv_ediv_of_nonneg (Int.le_of_lt (Int.pow_pos (by decide))), ← Int.pow_add]
  congr 2
  omega
theorem SDown.val {us U : List Int} {m : Nat} {P Q : Int} (h : SDown us 0 m P Q m U) (hm : m = us.length) (hu : AllW us) (hPQ : P * Q = 18446744073709551616) (hP : 0 < P) {n : Nat} (hQ : Q = 2 ^ (64 - n)) : AllW U ∧ val U = val us / P := by
  obtain ⟨h1, h2, h3⟩ := h
  subst hm
  have e : (us.drop 0).take us.length = us := by simp
  rw [e] at h3
  have h4 : ∀ j, j < us.length → lm U j = sdl us P Q j := fun j hj => by have := h3 j hj; rwa [Nat.zero_add] at this
  refine ⟨?_, sdl_val hPQ hP h1 h4⟩
  intro x hx
  obtain ⟨j, hj, e⟩ := List.getElem_of_mem hx
  have e2 : lm U j = x := by unfold lm; rw [List.getD_eq_getElem?_getD, List.getElem?_eq_getElem hj, e]; rfl
  rw [← e2, h4 j (by omega)]
  exact (sdl_or hu hPQ hP hQ j).1

set_option maxHeartbeats 400000 in
theorem shlArg (a : Option Addr) (na ca : Nat) (n : Int) (ev : Value) (w : World) (hn : n < 0) (E : Errs w 3 ev) :
    Calls Tryz.prog 66 #[.slice a na ca, .int .i64 n] w fun e w' => e = .returned (.tuple #[.slice none 0 0, ev]) ∧ Below w.heap.size w w' := by
  obtain ⟨hE, _⟩ := E
  go_enter Tryz.func66, Tryz.ntmps66
  go_wp2
  go_quiet (fail)
  go_wp2
  go_ret2
  exact ⟨rfl, belN (Below.refl _ _) nq⟩
set_option maxHeartbeats 400000 in
theorem shlLong (a : Option Addr) (na ca : Nat) (n : Int) (ev : Value) (w : World) (hn : 65536 < n) (E : Errs w 4 ev) :
    Calls Tryz.prog 66 #[.slice a na ca, .int .i64 n] w fun e w' => e = .returned (.tuple #[.slice none 0 0, ev]) ∧ Below w.heap.size w w' := by
  obtain ⟨hE, _⟩ := E
  go_enter Tryz.func66, Tryz.ntmps66
  go_wp2
  go_quiet (fail)
  go_wp2
  go_ret2
  exact ⟨rfl, belN (Below.refl _ _) nq⟩
set_option maxHeartbeats 1000000 in
theorem shlG {a : Option Addr} {na ca : Nat} {x : Int} {S : Nat} (n : Nat) (w : World) (ha : Num w a na ca x S) (hS : S ≤ 10000000) (hn : n ≤ 65536) :
    Calls Tryz.prog 66 #[.slice a na ca, .int .i64 n] w fun e w' => ∃ c m cc, e = .returned (.tuple #[.slice c m cc, .nilIface]) ∧ Got w' w.heap.size (.slice c m cc) (x * 2 ^ n) (S + 1025) ∧ Below w.heap.size w w' := by
  obtain ⟨xs, h1, h2, h3, h4, h5, h6⟩ := ha
  have ht : tlen xs ≤ xs.length := tl_le _ _
  have htS : tlen xs ≤ S := by omega
  have H1 : Hid (na = xs.length) := h1
  have H5 : Hid (val xs = x) := h5
  have h3t := h3.take (tlen xs)
  clear h1 h5 ht
  go_enter Tryz.func66, Tryz.ntmps66
  go_wp2_with fail
  refine (trim_any a na ca xs w H1.out h2 (by omega) h3).mono ?_
  rintro e wsame ⟨rfl, rfl⟩
  have HTL : Hid (tlen xs = (trimL xs).length) := (length_trimL xs).symm
  have HVT : Hid (val (trimL xs) = x) := by show _ = _; rw [val_trimL]; exact H5.out
  obtain ⟨tn, htn⟩ : ∃ tn, tlen xs = tn := ⟨_, rfl⟩
  have HTN : Hid (tn = (trimL xs).length) := htn ▸ HTL.out
  rw [htn] at htS
  rw [htn]
  clear htn
  go_wp2_with fail
  refine (shiftUp_any a tn ca (trimL xs) n (n / 64) (n % 64) w HTN.out (by omega) (by omega) rfl rfl h3t h4.trim).mono ?_
  rintro e w1 ⟨U, rfl, hB, hU, hUw, hUv, hb⟩
  have HU : Hid (U.length = n / 64 + tn + 1) := hU
  have HVU : Hid (val U = x * 2 ^ n) := by show _ = _; rw [hUv, HVT.out]
  have hre : Reads w1 (some ⟨w.heap.size, 0, none⟩) U := by have := hB.reads U.length; rwa [List.take_length] at this
  have hG := got_of_blk (B := w.heap.size) hB hUw (Nat.le_refl _) (n / 64 + tn + 1) hU.symm (S := S + 1025) (by omega) (by omega)
  rw [HVU.out] at hG
  have hq : n / 64 ≤ 1024 := by omega
  generalize n / 64 = q at *
  clear hU hUv h3 h3t h4 hB
  go_wp2_with fail
  refine (trim_any (some ⟨w.heap.size, 0, none⟩) (q + tn + 1) (q + tn + 1) U w1 HU.out.symm (Nat.le_refl _) (by omega) hre).mono ?_
  rintro e wsame ⟨rfl, rfl⟩
  clear hre
  go_wp2
  go_ret2
  exact ⟨_, _, _, rfl, hG, hb⟩

end Go.Proofs.YtbkkepbmaadomaaGreatDoor

import Derived.Test.YtbkkepbmaadomaaGreatDoorRatAll
import Derived.Test.YtbkkepbmaadomaaGreatDoorLentAll
namespace Go.Proofs.YtbkkepbmaadomaaGreatDoor
open Go.RowKit

end Go.Proofs.YtbkkepbmaadomaaGreatDoor

namespace Go.Proofs.YtbkkepbmaadomaaGreatDoor
open Go.RowKit

theorem lm_ext' {xs ys : List Int} (hl : xs.length = ys.length) (h : ∀ i, i < xs.length → lm xs i = lm ys i) : xs = ys := by
  apply List.ext_getElem hl
  intro i h1 h2
  have := h i h1
  have e1 := lm_lt h1
  have e2 := lm_lt h2
  rw [List.getElem?_eq_getElem h1] at e1
  rw [List.getElem?_eq_getElem h2] at e2
  rw [Option.some.injEq] at e1 e2
  rw [e1, e2, this]
theorem first_apart' {xs ys : List Int} (hl : xs.length = ys.length) (hne : xs ≠ ys) : ∃ j, j < xs.length ∧ lm xs j ≠ lm ys j ∧ ∀ i, i < j → lm xs i = lm ys i := by
  have hex : ∃ j, j < xs.length ∧ lm xs j ≠ lm ys j := Classical.byContradiction fun hn => hne (lm_ext' hl fun i hi => Classical.byContradiction fun h => hn ⟨i, hi, h⟩)
  obtain ⟨j, hj⟩ := hex
  induction j using Nat.strongRecOn with
  | ind j ih =>
    by_cases h : ∃ i, i < j ∧ lm xs i ≠ lm ys i
    · obtain ⟨i, h1, h2⟩ := h
      exact ih i h1 ⟨by omega, h2⟩
    · exact ⟨j, hj.1, hj.2, fun i hi => Classical.byContradiction fun hh => h ⟨i, hi, hh⟩⟩
set_option maxHeartbeats 1000000 in
theorem same_no (a b : Option Addr) (na nb ca cb : Nat) (xs ys : List Int) (w : World) (hna : na = xs.length) (hnb : nb = ys.length) (hma : na ≤ 1099511627776) (hmb : nb ≤ 1099511627776) (hra : Reads w a xs) (hrb : Reads w b ys) (hxy : xs ≠ ys) :
    Calls Tryz.prog 18 #[.slice a na ca, .slice b nb cb] w fun e w' => e = .returned (.bool false) ∧ ∃ m, w' = w.drewN m := by
  by_cases hlen : xs.length = ys.length
  · obtain ⟨j, hj, hd, hlow⟩ := first_apart' hlen hxy
    have t1 : ((na : Int) != (nb : Int)) = false := by simp; omega
    have HA : Hid (na = xs.length) := hna
    have HB : Hid (nb = ys.length) := hnb
    have HJ : Hid (j < na) := by show _ < _; omega
    have HL : Hid (∀ i, i < j → lm xs i = lm ys i) := hlow
    have HD : Hid (lm xs j ≠ lm ys j) := hd
    clear hlen hxy hna hnb hj hlow hd
    go_enter Tryz.func18, Tryz.ntmps18
    go_wp2
    go_loopw [5] (fun i wr => ∃ k m : Nat, k ≤ j ∧ i = .int .i64 k ∧ wr = w.drewN m) (fun i _ => na - (intOf i).toNat)
    case atStart => exact ⟨0, 0, Nat.zero_le _, rfl, rfl⟩
    case round =>
      obtain ⟨k, m, hk, rfl, rfl⟩ := hrel
      have hj := HJ.out
      have e1 := HA.out
      have e2 := HB.out
      have e3 : na = nb := by
        have : (na : Int) = (nb : Int) := by simpa using t1
        omega
      obtain ⟨b1, o1, rfl, hc1⟩ := hra.at (by omega)
      obtain ⟨b2, o2, rfl, hc2⟩ := hrb.at (by omega)
      have h1 := hc1 k (by omega)
      have h2 := hc2 k (by omega)
      have hkl : (k : Int) < (na : Int) := by omega
      have hkl2 : (k : Int) < (nb : Int) := by omega
      have hka : k < na := by omega
      clear hc1 hc2 e1 e2 e3
      by_cases hkj : k = j
      · have hb : (lm xs k != lm ys k) = true := by rw [hkj]; simpa using HD.out
        clear hk hkj hj
        go_wp2
        go_quiet (fail)
        go_wp2
        go_ret
        exact ⟨rfl, m + nq, by first | rfl | simp | rw [World.drewN_drewN]⟩
      · have hb : (lm xs k != lm ys k) = false := by rw [HL.out k (by omega)]; simp
        go_wp2
        go_quiet (fail)
        go_wp2
        go_roundw
        case rel => exact ⟨k + 1, m + nq, by omega, by go_num, rfl⟩
        case measure => simp [intOf]; omega
  · have t1 : ((na : Int) != (nb : Int)) = true := by simp; omega
    clear hlen hxy hna hnb hra hrb
    go_enter Tryz.func18, Tryz.ntmps18
    go_wp2
    go_ret
    exact ⟨rfl, 0, rfl⟩
theorem sameNG {a b : Option Addr} {na nb ca cb B B' : Nat} {x y : Int} {S R : Nat} (w : World) (ha : Got w B (.slice a na ca) x S) (hb : Got w B' (.slice b nb cb) y R) (hxy : x ≠ y) (hS : S ≤ 1000000000000) (hR : R ≤ 1000000000000) :
    Calls Tryz.prog 18 #[.slice a na ca, .slice b nb cb] w fun e w' => e = .returned (.bool false) ∧ Below w.heap.size w w' := by
  obtain ⟨xs, a1, a2, a3, a4, a5, a6⟩ := ha.num
  obtain ⟨ys, b1, b2, b3, b4, b5, b6⟩ := hb.num
  refine (same_no a b na nb ca cb xs ys w a1 b1 (by omega) (by omega) a3 b3 (fun h => hxy (by rw [← a5, ← b5, h]))).mono ?_
  rintro e w' ⟨rfl, m, rfl⟩
  exact ⟨rfl, belN (Below.refl _ _) m⟩
theorem sameB {a b : Option Addr} {na nb ca cb B B' : Nat} {x y : Int} {S R : Nat} (w : World) (ha : Got w B (.slice a na ca) x S) (hb : Got w B' (.slice b nb cb) y R) (hS : S ≤ 1000000000000) (hR : R ≤ 1000000000000) :
    Calls Tryz.prog 18 #[.slice a na ca, .slice b nb cb] w fun e w' => ∃ t, e = .returned (.bool t) ∧ t = decide (x = y) ∧ Below w.heap.size w w' := by
  by_cases h : x = y
  · refine (sameG w ha hb h hS).mono ?_
    rintro e w' ⟨rfl, h1⟩
    exact ⟨true, rfl, by simp [h], h1⟩
  · refine (sameNG w ha hb h hS hR).mono ?_
    rintro e w' ⟨rfl, h1⟩
    exact ⟨false, rfl, by simp [h], h1⟩
end Go.Proofs.YtbkkepbmaadomaaGreatDoor

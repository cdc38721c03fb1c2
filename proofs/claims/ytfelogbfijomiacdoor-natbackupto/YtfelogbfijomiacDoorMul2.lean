import Derived.Test.YtfelogbfijomiacDoorLow
namespace Go.Proofs.YtfelogbfijomiacDoor
open Go.RowKit

/-- Mul's loop, so many rounds of it. -/
def mulO (xs ys : List Int) (N : Nat) : Nat → List Int
  | 0 => List.replicate N 0
  | k + 1 => (mulR (mulO xs ys N k) k ys (lm xs k) ys.length).1.set (k + ys.length) (mulR (mulO xs ys N k) k ys (lm xs k) ys.length).2
theorem mulO_ok {xs ys : List Int} (N : Nat) (hx : AllW xs) (hy : AllW ys) (k : Nat) : AllW (mulO xs ys N k) ∧ (mulO xs ys N k).length = N := by
  induction k with
  | zero => exact ⟨AllW.replicate _, by simp [mulO]⟩
  | succ k ih =>
    have h := mulR_ok (us := mulO xs ys N k) k ih.1 hy (hx.at k) ys.length
    exact ⟨h.1.set _ _ ⟨h.2.2.1, h.2.2.2⟩, by simp [mulO, h.2.1, ih.2]⟩
/-- The product's limbs, ahead of the last cut. -/
def mulL (xs ys : List Int) : List Int := mulO (trimL xs) (trimL ys) (tlen xs + tlen ys) (tlen xs)

set_option maxHeartbeats 1000000 in
theorem mul_any (a b : Option Addr) (na nb ca cb : Nat) (xs ys : List Int) (w : World) (hna : na = xs.length) (hnb : nb = ys.length) (hla : na ≤ ca) (hlb : nb ≤ cb)
    (hma : na ≤ 400000000000) (hmb : nb ≤ 400000000000) (hra : Reads w a xs) (hrb : Reads w b ys) (hx : AllW xs) (hy : AllW ys) :
    Calls Tryd.prog 11 #[.slice a na ca, .slice b nb cb] w fun e w' => Res w w' e (mulL xs ys) := by
  have ta : tlen xs ≤ xs.length := tl_le _ _
  have tb : tlen ys ≤ ys.length := tl_le _ _
  subst hna hnb
  go_enter Tryd.func11, Tryd.ntmps11
  go_wp2_with fail
  refine (trim_any a _ ca xs _ rfl hla (by omega) hra).mono ?_
  rintro e w1 ⟨rfl, rfl⟩
  go_wp2_with fail
  refine (trim_any b _ cb ys _ rfl hlb (by omega) hrb).mono ?_
  rintro e w1 ⟨rfl, rfl⟩
  have hra' := hra.take (tlen xs)
  have hrb' := hrb.take (tlen ys)
  have HX : Hid ((trimL xs).length = tlen xs) := length_trimL xs
  have HY : Hid ((trimL ys).length = tlen ys) := length_trimL ys
  have hra2 : Reads w a (trimL xs) := hra'
  have hrb2 : Reads w b (trimL ys) := hrb'
  have hx2 : AllW (trimL xs) := hx.take _
  have hy2 : AllW (trimL ys) := hy.take _
  have HM : Hid (mulL xs ys = mulO (trimL xs) (trimL ys) (tlen xs + tlen ys) (tlen xs)) := rfl
  clear hra hrb hra' hrb' hx hy
  generalize trimL xs = X at *
  generalize trimL ys = Y at *
  generalize tlen xs = n at *
  generalize tlen ys = m at *
  go_wp2_with (at_make; refine wpList_makeB _ rfl _ _ rfl _ _ (n + m) rfl rfl (by omega) (by omega) (by omega) ?_)
  intro w1 hb1 hbel1
  go_wp2
  go_loopw [20] (fun i wr => ∃ k : Nat, k ≤ n ∧ i = .int .i64 k ∧ Blk wr w.heap.size (mulO X Y (n + m) k) ∧ Below w.heap.size w wr) (fun i _ => n - (intOf i).toNat)
  case atStart => exact ⟨0, Nat.zero_le _, rfl, hb1, hbel1⟩
  case round =>
    obtain ⟨k, hk, rfl, hbr, hbel⟩ := hrel
    obtain ⟨ok1, ok2⟩ := mulO_ok (n + m) hx2 hy2 k
    clear hb1 hbel1
    by_cases hlt : k < n
    · obtain ⟨b2, o2, rfl, hc2⟩ := hra2.at (by rw [HX.out]; omega)
      have h2 := hc2 k (by rw [HX.out]; omega)
      have hblt := World.block_lt_of_cell? _ _ h2
      have HC2 : wr.cell? ⟨b2, o2 + k, none⟩ = some (.int .u64 (lm X k)) := by rw [hbel.cell (p := ⟨b2, o2 + k, none⟩) (by simpa using hblt)]; exact h2
      have hw := hx2.at k
      have HN : Hid (mulO X Y (n + m) (k + 1) = (mulR (mulO X Y (n + m) k) k Y (lm X k) Y.length).1.set (k + Y.length) (mulR (mulO X Y (n + m) k) k Y (lm X k) Y.length).2) := rfl
      have hrok := mulR_ok (us := mulO X Y (n + m) k) k ok1 hy2 hw Y.length
      generalize mulO X Y (n + m) k = U at *
      clear hc2 h2
      go_wp2_with fail
      refine (addTimes_any w.heap.size k (n + m - k) (n + m - k) U b m cb Y (lm X k) wr hbr (by omega) (by omega) ok1 HY.out.symm (by omega) (hrb2.below hbel) (fun hne p hp => ?haw) hy2 hw).mono ?_
      case haw => have := hrb2.lt hne p hp; omega
      rintro e w2 ⟨rfl, hb2, hoff⟩
      have hbel2 : Below w.heap.size w w2 := hbel.trans (hoff.below (Nat.le_refl _))
      obtain ⟨r1, r2, r3, r4⟩ := hrok
      rw [HY.out] at HN r1 r2 r3 r4 hb2
      simp only [HY.out]
      generalize (mulR U k Y (lm X k) m).1 = V at *
      generalize (mulR U k Y (lm X k) m).2 = D at *
      have hcg := hb2.cell (i := k + m) (by omega)
      have hfg := hb2.frozen (k + m)
      have HB := hb2.set (k + m) D
      have HO := hbel2.setCell (p := ⟨w.heap.size, k + m, none⟩) (Nat.le_refl _) (.int .u64 D)
      clear hoff hbr hbel hb2 hbel2
      go_wp2
      go_roundw
      case rel => exact ⟨k + 1, by omega, by go_num, by rw [HN.out]; exact HB, HO⟩
      case measure => simp [intOf]; omega
    · obtain rfl : k = n := by omega
      rw [← HM.out] at hbr ok2
      have HL : Hid ((mulL xs ys).length = k + m) := ok2
      clear ok2 ok1
      go_wp2_with fail
      refine (trim_any (some ⟨w.heap.size, 0, none⟩) (k + m) (k + m) (mulL xs ys) wr HL.out.symm (Nat.le_refl _) (by omega) hbr.reads').mono ?_
      rintro e w4 ⟨rfl, rfl⟩
      go_wp2
      go_ret
      exact ⟨w.heap.size, ret_slice2 rfl HL.out.symm, Nat.le_refl _, hbr, hbel⟩
end Go.Proofs.YtfelogbfijomiacDoor

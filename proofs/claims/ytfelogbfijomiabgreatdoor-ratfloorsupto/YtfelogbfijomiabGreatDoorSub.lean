import Derived.Test.YtfelogbfijomiabGreatDoorNum
namespace Go.Proofs.YtfelogbfijomiabGreatDoor
open Go.RowKit

set_option maxHeartbeats 1000000 in
theorem sub_any (a b : Option Addr) (na nb ca cb : Nat) (xs ys : List Int) (w : World) (hna : na = xs.length) (hnb : nb = ys.length) (hla : na ≤ ca) (hlb : nb ≤ cb)
    (hma : na ≤ 1000000000000) (hmb : nb ≤ 1000000000000) (hra : Reads w a xs) (hrb : Reads w b ys) (hx : AllW xs) (hy : AllW ys) (hc : 0 ≤ cmpL xs ys) (hle : tlen ys ≤ tlen xs) (hlast : (subF (trimL xs) 0 (tlen xs) (trimL ys)).2 = 0) :
    Calls Tryz.prog 68 #[.slice a na ca, .slice b nb cb] w fun e w' => ∃ g, e = .returned (.tuple #[.slice (some ⟨g, 0, none⟩) (tlen (subL xs ys)) (tlen xs), .nilIface]) ∧ w.heap.size ≤ g ∧ Blk w' g (subL xs ys) ∧ Below w.heap.size w w' := by
  have ta : tlen xs ≤ xs.length := tl_le _ _
  have tb : tlen ys ≤ ys.length := tl_le _ _
  subst hna hnb
  have HLAST : Hid ((subF (trimL xs) 0 (tlen xs) (trimL ys)).2 = 0) := hlast
  clear hlast
  go_enter Tryz.func68, Tryz.ntmps68
  go_wp2_with fail
  refine (cmp_any a b _ _ ca cb xs ys _ rfl rfl hla hlb (by omega) (by omega) hra hrb).mono ?_
  rintro e w1 ⟨rfl, m, rfl⟩
  go_wp2_with fail
  refine (norm_any a _ ca xs _ rfl hla (by omega) (hra.drewN m)).mono ?_
  rintro e w1 ⟨g, rfl, hg, hb1, hbel1⟩
  have hbel : Below w.heap.size w w1 := (belN (Below.refl _ w) m).trans hbel1
  have hg' : w.heap.size ≤ g := hg
  clear hg hbel1
  go_wp2_with fail
  refine (trim_any b _ cb ys _ rfl hlb (by omega) (hrb.below hbel)).mono ?_
  rintro e w2 ⟨rfl, rfl⟩
  go_wp2_with fail
  refine (takeFrom_any g 0 (tlen xs) _ (trimL xs) b (tlen ys) cb (trimL ys) w1 hb1 (by rw [length_trimL]; omega) (by rw [length_trimL]; omega) (hx.take _) (length_trimL ys).symm hle ((hrb.below hbel).take _) (fun hne p hp => ?haw) (hy.take _) HLAST.out).mono ?_
  case haw => have := (hrb.take (tlen ys)).lt hne p hp; omega
  rintro e w3 ⟨rfl, hb3, hoff⟩
  have hbel3 : Below w.heap.size w w3 := hbel.trans (hoff.below hg')
  have HL : Hid ((subL xs ys).length = tlen xs) := by show _ = _; unfold subL; rw [length_subF, length_trimL]
  have hb4 : Blk w3 g (subL xs ys) := hb3
  clear hb3 hoff hb1 hbel
  go_wp2_with fail
  refine (trim_any (some ⟨g, 0, none⟩) (tlen xs) (tlen xs) (subL xs ys) w3 HL.out.symm (Nat.le_refl _) (by omega) hb4.reads').mono ?_
  rintro e w4 ⟨rfl, rfl⟩
  go_wp2
  go_ret2
  exact ⟨g, rfl, hg', hb4, hbel3⟩
theorem subV {a b : Option Addr} {na nb ca cb : Nat} {x y : Int} {S R : Nat} (w : World) (ha : Num w a na ca x S) (hb : Num w b nb cb y R) (hS : S ≤ 1000000000000) (hR : R ≤ 1000000000000) (hxy : y ≤ x) :
    Calls Tryz.prog 68 #[.slice a na ca, .slice b nb cb] w fun e w' => ∃ c nc cc, e = .returned (.tuple #[.slice c nc cc, .nilIface]) ∧ Num w' c nc cc (x - y) S ∧ Below w.heap.size w w' := by
  obtain ⟨xs, a1, a2, a3, a4, a5, a6⟩ := ha
  obtain ⟨ys, b1, b2, b3, b4, b5, b6⟩ := hb
  obtain ⟨s1, s2, s3, s4⟩ := subL_val a4 b4 (by omega)
  have hc : 0 ≤ cmpL xs ys := by rcases cmpL_val a4 b4 with h | h | h <;> omega
  refine (sub_any a b na nb ca cb xs ys w a1 b1 a2 b2 (by omega) (by omega) a3 b3 a4 b4 hc s1 s2).mono ?_
  rintro e w' ⟨g, rfl, hg, hbk, hbel⟩
  have t1 : tlen xs ≤ xs.length := tl_le _ _
  refine ⟨_, _, _, rfl, ?_, hbel⟩
  rw [← a5, ← b5, ← s4]
  exact num_of_blk hbk s3 _ (length_subL xs ys).symm (by rw [length_subL]; omega)
end Go.Proofs.YtfelogbfijomiabGreatDoor

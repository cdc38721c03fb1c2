import Derived.Test.YtfelogbfijomiaaDoorValH
namespace Go.Proofs.YtfelogbfijomiaaDoor
open Go.RowKit

set_option maxHeartbeats 400000 in
theorem refcmp_any (a b : Option Addr) (na nb ca cb : Nat) (xs ys : List Int) (w : World) (hna : na = xs.length) (hnb : nb = ys.length) (hla : na ≤ ca) (hlb : nb ≤ cb)
    (hma : na ≤ 400000000000) (hmb : nb ≤ 400000000000) (hra : Reads w a xs) (hrb : Reads w b ys) (hx : AllW xs) (hy : AllW ys) :
    Calls Tryd.prog 61 #[.slice a na ca, .slice b nb cb] w fun e w' => e = .returned (.int .i64 (cmpL (hv xs) (hv ys))) ∧ Below w.heap.size w w' := by
  have hl1 := length_hv xs
  have hl2 := length_hv ys
  have ht1 : tlen (hv xs) ≤ (hv xs).length := tl_le _ _
  have ht2 : tlen (hv ys) ≤ (hv ys).length := tl_le _ _
  have b1 : tlen (hv xs) ≤ 1099511627776 := by omega
  have b2 : tlen (hv ys) ≤ 1099511627776 := by omega
  clear hl1 hl2
  subst hna hnb
  go_enter Tryd.func61, Tryd.ntmps61
  go_wp2_with fail
  refine (halves_any a _ ca xs _ rfl hla hma hra hx).mono ?_
  rintro e w1 ⟨c, cc, rfl, hc, hrc, hbel1⟩
  go_wp2_with fail
  refine (halves_any b _ cb ys _ rfl hlb hmb (hrb.below hbel1) hy).mono ?_
  rintro e w2 ⟨d, cd, rfl, hd, hrd, hbel2⟩
  go_wp2_with fail
  refine (rcmp_any c d (tlen (hv xs)) (tlen (hv ys)) cc cd (trimL (hv xs)) (trimL (hv ys)) _ (length_trimL _).symm (length_trimL _).symm b1 b2 ((hrc.below hbel2).take _) (hrd.take _)).mono ?_
  rintro e w3 ⟨rfl, m, rfl⟩
  go_wp2
  go_ret
  refine ⟨ret_int ?_, belN (bel_tr hbel1 hbel2) m⟩
  unfold rcmpL cmpL
  rw [length_trimL, length_trimL]
  by_cases h : tlen (hv xs) = tlen (hv ys)
  · rw [if_pos h, if_pos h]
    exact cmpTo_take _ (Nat.le_refl _) (by omega)
  · rw [if_neg h, if_neg h]
theorem refcmpV {a b : Option Addr} {na nb ca cb : Nat} {x y : Int} {S R : Nat} (w : World) (ha : Num w a na ca x S) (hb : Num w b nb cb y R) (hS : S ≤ 400000000000) (hR : R ≤ 400000000000) :
    Calls Tryd.prog 61 #[.slice a na ca, .slice b nb cb] w fun e w' => ∃ c : Int, e = .returned (.int .i64 c) ∧ ((c = 0 ∧ x = y) ∨ (c = -1 ∧ x < y) ∨ (c = 1 ∧ y < x)) ∧ Below w.heap.size w w' := by
  obtain ⟨xs, a1, a2, a3, a4, a5, a6⟩ := ha
  obtain ⟨ys, b1, b2, b3, b4, b5, b6⟩ := hb
  refine (refcmp_any a b na nb ca cb xs ys w a1 b1 a2 b2 (by omega) (by omega) a3 b3 a4 b4).mono ?_
  rintro e w' ⟨rfl, hbel⟩
  refine ⟨_, rfl, ?_, hbel⟩
  have := cmpLH_val (allH_hv a4) (allH_hv b4)
  rw [valH_hv, valH_hv, a5, b5] at this
  exact this
end Go.Proofs.YtfelogbfijomiaaDoor

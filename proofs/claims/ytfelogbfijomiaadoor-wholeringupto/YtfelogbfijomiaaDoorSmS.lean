import Derived.Test.YtfelogbfijomiaaDoorWhG0
namespace Go.Proofs.YtfelogbfijomiaaDoor
open Go.RowKit

set_option maxHeartbeats 1000000 in
/-- same: two answers of one number. -/
theorem sameI {a b : Option Addr} {na nb ca cb B B' : Nat} {x : Int} {S R : Nat} (p q : Bool) (w : World) (ha : GI w B (.agg #[.bool p, .slice a na ca]) x S) (hb : GI w B' (.agg #[.bool q, .slice b nb cb]) x R) (hS : S ≤ 10000000000) :
    Calls Tryd.prog 11 #[.agg #[.bool p, .slice a na ca], .agg #[.bool q, .slice b nb cb]] w fun e w' => e = .returned (.bool true) ∧ Below w.heap.size w w' := by
  obtain ⟨hp, xs, o1, nf1, v1, l1⟩ := ha.parts
  obtain ⟨hq, ys, o2, nf2, v2, l2⟩ := hb.parts
  obtain rfl : xs = ys := nf_unique nf1 nf2 (by omega)
  obtain rfl : p = q := by rw [hp, hq]
  obtain ⟨r1, r2, r3⟩ := o1.reads
  obtain ⟨s1, s2, s3⟩ := o2.reads
  obtain rfl : na = nb := by omega
  obtain ⟨P0, P1, hb0, hsz⟩ := box2 w (.bool p) (.slice a na ca) (.bool p) (.slice b na cb) 25
  replace r3 := r3.below hb0
  replace s3 := s3.below hb0
  have hna : na ≤ 10000000000 := by omega
  have Hn : Hid (na = xs.length) := r1
  clear r1 s1 o1 o2 nf1 nf2 v1 v2 l1 l2 hp hq ha hb
  go_enter Tryd.func11, Tryd.ntmps11
  go_wp2_with fail
  generalize (w.alloc (.cells #[.bool p, .slice a na ca] 25)).alloc (.cells #[.bool p, .slice b na cb] 25) = W0 at *
  obtain ⟨p00, p01, p02, p03⟩ := id P0
  obtain ⟨p10, p11, p12, p13⟩ := id P1
  go_loopw [5, 6] (fun ok i wr => ∃ k : Nat, ok = .bool true ∧ i = .int .i64 k ∧ k ≤ na ∧ Var2 wr w.heap.size (.bool p) (.slice a na ca) ∧ Var2 wr (w.heap.size + 1) (.bool p) (.slice b na cb) ∧ Reads wr a xs ∧ Reads wr b xs ∧ Below w.heap.size w wr) (fun _ i _ => na - (intOf i).toNat)
  case atStart => exact ⟨0, rfl, by go_num, Nat.zero_le _, P0, P1, r3, s3, hb0⟩
  case round =>
    clear p00 p01 p02 p03 p10 p11 p12 p13 P0 P1 r3 s3 hb0
    obtain ⟨k, rfl, rfl, hk, P0, P1, r3, s3, hb0⟩ := hrel
    obtain ⟨p00, p01, p02, p03⟩ := id P0
    obtain ⟨p10, p11, p12, p13⟩ := id P1
    by_cases hlt : k < na
    · obtain ⟨bb, oo, rfl, hc⟩ := r3.at (by have := Hn.out; omega)
      obtain ⟨bb', oo', rfl, hc'⟩ := s3.at (by have := Hn.out; omega)
      have c1 := hc k (by have := Hn.out; omega)
      have c2 := hc' k (by have := Hn.out; omega)
      have hki : (k : Int) < na := by omega
      generalize lm xs k = X at *
      clear hc hc'
      go_wp2
      go_quiet (fail)
      go_wp2
      have hq : Below wr.heap.size wr (wr.drewN nq) := belN (Below.refl _ _) nq
      exact ⟨⟨k + 1, rfl, by go_num, by omega, P0.below hq, P1.below hq, r3.below hq, s3.below hq, bel_tr hb0 hq⟩, by simp [intOf]; omega⟩
    · obtain rfl : k = na := by omega
      go_wp2
      go_ret
      exact ⟨rfl, hb0⟩
end Go.Proofs.YtfelogbfijomiaaDoor

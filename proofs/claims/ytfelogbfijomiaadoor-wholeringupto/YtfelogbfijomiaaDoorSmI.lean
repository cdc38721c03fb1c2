import Derived.Test.YtfelogbfijomiaaDoorSmS
namespace Go.Proofs.YtfelogbfijomiaaDoor
open Go.RowKit

theorem top_ne {xs : List Int} {k : Nat} (h : NF xs) (hk : k + 1 = xs.length) : lm xs k ≠ 0 := by
  have := tlen_top h.1 (m := k) (by rw [h.2]; omega)
  omega
set_option maxRecDepth 100000 in
set_option maxHeartbeats 1000000 in
/-- good: an answer in the one form. -/
theorem goodI {a : Option Addr} {na ca B : Nat} {x : Int} {S : Nat} (p : Bool) (w : World) (ha : GI w B (.agg #[.bool p, .slice a na ca]) x S) (hS : S ≤ 10000000000) :
    Calls Tryd.prog 18 #[.agg #[.bool p, .slice a na ca]] w fun e w' => e = .returned (.bool true) ∧ Below w.heap.size w w' := by
  obtain ⟨hp, xs, o1, nf1, v1, l1⟩ := ha.parts
  obtain ⟨r1, r2, r3⟩ := o1.reads
  obtain ⟨P0, hb0, hsz⟩ := box1 w (.bool p) (.slice a na ca) 25
  replace r3 := r3.below hb0
  have hna : na ≤ 10000000000 := by omega
  by_cases h0 : na = 0
  · have hx : x = 0 := by
      have h1 := (tlen_zero nf1.1).1 (by rw [nf1.2]; omega)
      omega
    obtain rfl : p = false := by rw [hp, hx]; rfl
    subst h0
    clear ha o1 nf1 v1 hp r3 r1 r2 l1 hx
    go_enter Tryd.func18, Tryd.ntmps18
    go_wp2
    go_ret
    exact ⟨rfl, hb0⟩
  · obtain ⟨bb, oo, rfl, hc⟩ := r3.at (by omega)
    obtain ⟨k, hk⟩ : ∃ k, na = k + 1 := ⟨na - 1, by omega⟩
    have htop : lm xs k ≠ 0 := top_ne nf1 (by omega)
    have hck := hc k (by omega)
    subst hk
    generalize lm xs k = X at *
    clear ha o1 nf1 v1 hp hc r1 r2
    go_enter Tryd.func18, Tryd.ntmps18
    have HX : Hid ((X != 0) = true) := by simpa [Hid] using htop
    clear htop
    go_wp2
    go_ret
    refine ⟨?_, hb0⟩
    first
      | rfl
      | (show Ending.returned (Value.bool (X != 0)) = _
         rw [HX.out])
end Go.Proofs.YtfelogbfijomiaaDoor

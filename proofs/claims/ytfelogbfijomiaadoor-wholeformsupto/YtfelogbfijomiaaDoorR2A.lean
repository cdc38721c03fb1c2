import Derived.Test.YtfelogbfijomiaaDoorTI
import Derived.Test.YtfelogbfijomiaaDoorLndA
import Derived.Test.YtfelogbfijomiaaDoorRefE
import Derived.Test.YtfelogbfijomiaaDoorRefSub
import Derived.Test.YtfelogbfijomiaaDoorRefCmp
namespace Go.Proofs.YtfelogbfijomiaaDoor
open Go.RowKit

theorem rnormR {a : Option Addr} {na ca : Nat} {x : Int} {S : Nat} (w : World) (ha : Num w a na ca x S) (hS : S ≤ 100000000) :
    Calls Tryd.prog 60 #[.slice a na ca] w fun e w' => ∃ c n cc, e = .returned (.slice c n cc) ∧ Got w' w.heap.size (.slice c n cc) x S ∧ Below w.heap.size w w' := by
  obtain ⟨xs, h1, h2, h3, h4, h5, h6⟩ := ha
  refine (rnorm_any a na ca xs w h1 h2 (by omega) h3 h4).mono ?_
  rintro e w' ⟨c, cc, rfl, ho, hb⟩
  have hl : tlen xs ≤ xs.length := tl_le _ _
  exact ⟨c, _, cc, rfl, ⟨trimL xs, ho, NF.trimL h4, by rw [val_trimL]; exact h5, by rw [length_trimL]; omega⟩, hb⟩
theorem Got.gi0 {w : World} {B : Nat} {a : Option Addr} {n c : Nat} {m : Int} {S : Nat} (h : Got w B (.slice a n c) m S) : GI w B (.agg #[.bool false, .slice a n c]) m S := h.gi false
set_option maxHeartbeats 1000000 in
/-- the document's Norm -/
theorem rnormI {a : Option Addr} {na ca : Nat} {m : Int} {S : Nat} (p : Bool) (w : World) (ha : Num w a na ca m S) (hS : S ≤ 90000000) :
    Calls Tryd.prog 37 #[.agg #[.bool p, .slice a na ca]] w fun e w' => ∃ f c n d, e = .returned (.agg #[.bool f, .slice c n d]) ∧ GI w' w.heap.size (.agg #[.bool f, .slice c n d]) (ws p m) (S) ∧ Below w.heap.size w w' := by
  obtain ⟨P0, R0, hb0, hsz⟩ := box2 w (.bool p) (.slice a na ca) (.bool false) (.slice none 0 0) 25
  replace ha := ha.below hb0
  go_enter Tryd.func37, Tryd.ntmps37
  go_wp2_with fail
  generalize (w.alloc (.cells #[.bool p, .slice a na ca] 25)).alloc (.cells #[.bool false, .slice none 0 0] 25) = W0 at *
  obtain ⟨p00, p01, p02, p03⟩ := id P0
  refine (rnormR _ ha (by omega)).mono ?_
  rintro e w2 ⟨c1, n1, d1, rfl, G, hb1⟩
  have R1 := R0.below hb1
  have hw2 := bel_tr hb0 hb1
  replace P0 := P0.below hb1
  clear p00 p01 p02 p03
  obtain ⟨p00, p01, p02, p03⟩ := id P0
  obtain ⟨r0, r1, r2, r3⟩ := id R1
  cases p with
  | false =>
    have GF : GI w2 W0.heap.size (.agg #[.bool false, .slice c1 n1 d1]) (ws false m) S := G.gi false
    obtain ⟨V, O⟩ := R1.set (.bool false) (.slice c1 n1 d1)
    clear P0 R0 ha hb0 hb1 G
    go_wp2
    refine bodyPost_ret (v := .agg #[.bool false, .slice c1 n1 d1]) (by simp [results, Tryd.results37, go_sem, V.c0, V.c1]) rfl ⟨_, _, _, _, rfl, ((GF.off O (by omega)).mono (by omega)), hw2.trans (O.below (by omega))⟩
  | true =>
    have GF : GI w2 W0.heap.size (.agg #[.bool (decide (0 < n1)), .slice c1 n1 d1]) (ws true m) S := G.gi true
    obtain ⟨V, O⟩ := R1.set (.bool (decide (0 < n1))) (.slice c1 n1 d1)
    clear P0 R0 ha hb0 hb1 G
    go_wp2
    refine bodyPost_ret (v := .agg #[.bool (decide (0 < n1)), .slice c1 n1 d1]) (by simp [results, Tryd.results37, go_sem, V.c0, V.c1]) rfl ⟨_, _, _, _, rfl, ((GF.off O (by omega)).mono (by omega)), hw2.trans (O.below (by omega))⟩

set_option maxHeartbeats 1000000 in
/-- the document's From -/
theorem rfromI {a : Option Addr} {n c : Nat} {m : Int} {S : Nat} (b : Bool) (w : World) (h : Num w a n c m S) (hS : S ≤ 90000000) :
    Calls Tryd.prog 38 #[.bool b, .slice a n c] w fun e w' => ∃ f c n d, e = .returned (.agg #[.bool f, .slice c n d]) ∧ GI w' w.heap.size (.agg #[.bool f, .slice c n d]) (ws b m) (S) ∧ Below w.heap.size w w' := by
  obtain ⟨R0, hb0, hsz⟩ := box1 w (.bool false) (.slice none 0 0) 25
  replace h := h.below hb0
  go_enter Tryd.func38, Tryd.ntmps38
  go_wp2_with fail
  generalize w.alloc (.cells #[.bool false, .slice none 0 0] 25) = W0 at *
  refine (rnormI b _ h hS).mono ?_
  rintro e w2 ⟨f1, c1, n1, d1, rfl, GF, hb1⟩
  have R1 := R0.below hb1
  have hw2 := bel_tr hb0 hb1
  obtain ⟨r0, r1, r2, r3⟩ := id R1
  obtain ⟨V, O⟩ := R1.set (.bool f1) (.slice c1 n1 d1)
  clear R0 h hb0 hb1
  go_wp2
  refine bodyPost_ret (v := .agg #[.bool f1, .slice c1 n1 d1]) (by simp [results, Tryd.results38, go_sem, V.c0, V.c1]) rfl ⟨_, _, _, _, rfl, ((GF.off O (by omega)).mono (by omega)), hw2.trans (O.below (by omega))⟩

set_option maxHeartbeats 1000000 in
/-- the document's Neg -/
theorem rnegI {a : Option Addr} {na ca : Nat} {m : Int} {S : Nat} (p : Bool) (w : World) (ha : Num w a na ca m S) (hS : S ≤ 20000000) :
    Calls Tryd.prog 30 #[.agg #[.bool p, .slice a na ca]] w fun e w' => ∃ f c n d, e = .returned (.agg #[.bool f, .slice c n d]) ∧ GI w' w.heap.size (.agg #[.bool f, .slice c n d]) (-ws p m) (S) ∧ Below w.heap.size w w' := by
  obtain ⟨P0, R0, hb0, hsz⟩ := box2 w (.bool p) (.slice a na ca) (.bool false) (.slice none 0 0) 25
  replace ha := ha.below hb0
  go_enter Tryd.func30, Tryd.ntmps30
  go_wp2_with fail
  generalize (w.alloc (.cells #[.bool p, .slice a na ca] 25)).alloc (.cells #[.bool false, .slice none 0 0] 25) = W0 at *
  obtain ⟨p00, p01, p02, p03⟩ := id P0
  refine (rfromI (!p) _ ha (by omega)).mono ?_
  rintro e w2 ⟨f1, c1, n1, d1, rfl, G, hb1⟩
  have GF := G.val (ws_not p m)
  have R1 := R0.below hb1
  have hw2 := bel_tr hb0 hb1
  obtain ⟨r0, r1, r2, r3⟩ := id R1
  obtain ⟨V, O⟩ := R1.set (.bool f1) (.slice c1 n1 d1)
  clear P0 R0 p00 p01 p02 p03 ha hb0 hb1 G
  go_wp2
  refine bodyPost_ret (v := .agg #[.bool f1, .slice c1 n1 d1]) (by simp [results, Tryd.results30, go_sem, V.c0, V.c1]) rfl ⟨_, _, _, _, rfl, ((GF.off O (by omega)).mono (by omega)), hw2.trans (O.below (by omega))⟩

set_option maxHeartbeats 1000000 in
/-- the document's Abs -/
theorem rabsI {a : Option Addr} {na ca : Nat} {m : Int} {S : Nat} (p : Bool) (w : World) (ha : Num w a na ca m S) (hS : S ≤ 20000000) :
    Calls Tryd.prog 31 #[.agg #[.bool p, .slice a na ca]] w fun e w' => ∃ c1 n1 d1, e = .returned (.slice c1 n1 d1) ∧ Got w' w.heap.size (.slice c1 n1 d1) m S ∧ Below w.heap.size w w' := by
  obtain ⟨P0, hb0, hsz⟩ := box1 w (.bool p) (.slice a na ca) 25
  replace ha := ha.below hb0
  go_enter Tryd.func31, Tryd.ntmps31
  go_wp2_with fail
  generalize w.alloc (.cells #[.bool p, .slice a na ca] 25) = W0 at *
  obtain ⟨p00, p01, p02, p03⟩ := id P0
  refine (rnormR _ ha (by omega)).mono ?_
  rintro e w2 ⟨c1, n1, d1, rfl, G, hb1⟩
  have hw2 := bel_tr hb0 hb1
  clear P0 p00 p01 p02 p03 ha hb0 hb1
  go_wp2
  go_ret
  exact ⟨_, _, _, rfl, G.mono (by omega), hw2⟩

set_option maxHeartbeats 1000000 in
/-- the document's Sign -/
theorem rsignI {a : Option Addr} {na ca : Nat} {m : Int} {S : Nat} (p : Bool) (w : World) (ha : Num w a na ca m S) (hS : S ≤ 20000000) :
    Calls Tryd.prog 32 #[.agg #[.bool p, .slice a na ca]] w fun e w' => e = .returned (.int .i64 (ws p m).sign) ∧ Below w.heap.size w w' := by
  obtain ⟨P0, hb0, hsz⟩ := box1 w (.bool p) (.slice a na ca) 25
  replace ha := ha.below hb0
  go_enter Tryd.func32, Tryd.ntmps32
  go_wp2_with fail
  generalize w.alloc (.cells #[.bool p, .slice a na ca] 25) = W0 at *
  obtain ⟨p00, p01, p02, p03⟩ := id P0
  refine (rnormI p _ ha (by omega)).mono ?_
  rintro e w2 ⟨f1, c1, n1, d1, rfl, G, hb1⟩
  have hw2 := bel_tr hb0 hb1
  obtain ⟨e1, G1⟩ := G.parts
  have hp := G1.pos.2
  obtain ⟨X, hX⟩ : ∃ X, ws p m = X := ⟨_, rfl⟩
  rw [hX] at e1 hp
  have HX : Hid ((ws p m).sign = X.sign) := by show _ = _; rw [hX]
  clear P0 p00 p01 p02 p03 ha hb0 hb1 G G1 hX
  obtain ⟨V, hv, hs⟩ := box1 w2 (.bool f1) (.slice c1 n1 d1) 25
  have hw3 := bel_tr hw2 hv
  obtain ⟨v0, v1, v2, v3⟩ := id V
  rcases Int.lt_trichotomy X 0 with h | h | h
  · have hn : n1 ≠ 0 := by omega
    obtain rfl : f1 = true := by rw [e1]; simpa using h
    have HZ : Hid (X.sign = -1) := Int.sign_eq_neg_one_of_neg h
    clear e1 hp h V hv hs hw2
    go_wp2
    go_ret
    exact ⟨by rw [HX.out, HZ.out]; rfl, hw3⟩
  · obtain rfl : n1 = 0 := by omega
    have HZ : Hid (X.sign = 0) := by show _ = _; rw [h]; rfl
    clear e1 hp h V hv hs hw2
    go_wp2
    go_ret
    exact ⟨by rw [HX.out, HZ.out]; rfl, hw3⟩
  · have hn : n1 ≠ 0 := by omega
    obtain rfl : f1 = false := by rw [e1]; simpa using (by omega : 0 ≤ X)
    have HZ : Hid (X.sign = 1) := Int.sign_eq_one_of_pos h
    clear e1 hp h V hv hs hw2
    go_wp2
    go_ret
    exact ⟨by rw [HX.out, HZ.out]; rfl, hw3⟩

set_option maxHeartbeats 1000000 in
/-- the document's Same of two answers that are one number -/
theorem rsameI {a b : Option Addr} {na nb ca cb B B' : Nat} {x y : Int} {S R : Nat} {p q : Bool} (w : World) (ha : GI w B (.agg #[.bool p, .slice a na ca]) x S) (hb : GI w B' (.agg #[.bool q, .slice b nb cb]) y R) (hS : S ≤ 1000000000) (hxy : x = y) :
    Calls Tryd.prog 23 #[.agg #[.bool p, .slice a na ca], .agg #[.bool q, .slice b nb cb]] w fun e w' => e = .returned (.bool true) ∧ Below w.heap.size w w' := by
  subst hxy
  have K1 := ha.parts
  have K2 := hb.parts
  clear ha hb
  obtain ⟨e1, ha⟩ := K1
  obtain ⟨e2, hb⟩ := K2
  obtain rfl : p = q := by rw [e1, e2]
  clear e1 e2
  obtain ⟨P0, P1, hb0, hsz⟩ := box2 w (.bool p) (.slice a na ca) (.bool p) (.slice b nb cb) 25
  replace ha := ha.below hb0
  replace hb := hb.below hb0
  go_enter Tryd.func23, Tryd.ntmps23
  go_wp2_with fail
  generalize (w.alloc (.cells #[.bool p, .slice a na ca] 25)).alloc (.cells #[.bool p, .slice b nb cb] 25) = W0 at *
  obtain ⟨p00, p01, p02, p03⟩ := id P0
  obtain ⟨p10, p11, p12, p13⟩ := id P1
  refine (sameG _ ha hb rfl (by omega)).mono ?_
  rintro e w2 ⟨rfl, hb1⟩
  have hw2 := bel_tr hb0 hb1
  clear P0 P1 p00 p01 p02 p03 p10 p11 p12 p13 ha hb hb0 hb1
  go_wp2
  go_ret
  exact ⟨rfl, hw2⟩

end Go.Proofs.YtfelogbfijomiaaDoor

import Derived.Test.YtfelogbfijomiaaDoorR2G
namespace Go.Proofs.YtfelogbfijomiaaDoor
open Go.RowKit

/-- What a kind of reckoning gives. -/
def opv (op : Nat) (x y : Int) : Int := if op = 0 then x + y else if op = 1 then x - y else x * y
set_option maxHeartbeats 1000000 in
theorem doesT {a b : Option Addr} {p q : Bool} {na nb ca cb : Nat} {x y : Int} {S : Nat} (op : Nat) (w : World) (ha : TI w p a na ca x S) (hb : TI w q b nb cb y S) (hS : S ≤ 5000000) (hop : op < 3) :
    Calls Tryd.prog 65 #[.int .i64 (op : Int), .agg #[.bool p, .slice a na ca], .agg #[.bool q, .slice b nb cb]] w fun e w' => ∃ f c n d, e = .returned (.agg #[.bool f, .slice c n d]) ∧ GI w' w.heap.size (.agg #[.bool f, .slice c n d]) (opv op x y) (2 * S + 1) ∧ Below w.heap.size w w' := by
  rcases (by omega : op = 0 ∨ op = 1 ∨ op = 2) with rfl | rfl | rfl
  · obtain ⟨P0, P1, R0, hb0, hsz⟩ := box3 w (.bool p) (.slice a na ca) (.bool q) (.slice b nb cb) (.bool false) (.slice none 0 0) 25
    replace ha := ha.below hb0
    replace hb := hb.below hb0
    go_enter Tryd.func65, Tryd.ntmps65
    go_wp2_with fail
    generalize ((w.alloc (.cells #[.bool p, .slice a na ca] 25)).alloc (.cells #[.bool q, .slice b nb cb] 25)).alloc (.cells #[.bool false, .slice none 0 0] 25) = W0 at *
    obtain ⟨p00, p01, p02, p03⟩ := id P0
    obtain ⟨p10, p11, p12, p13⟩ := id P1
    refine (addT _ ha hb (by omega) (by omega)).mono ?_
    rintro e w2 ⟨f1, c1, n1, d1, rfl, G, hb1⟩
    have GF : GI w2 W0.heap.size (.agg #[.bool f1, .slice c1 n1 d1]) (x + y) (2 * S + 1) := G.le (by omega)
    have R1 := R0.below hb1
    have hw2 := bel_tr hb0 hb1
    obtain ⟨r0, r1, r2, r3⟩ := id R1
    obtain ⟨V, O⟩ := R1.set (.bool f1) (.slice c1 n1 d1)
    clear P0 P1 R0 p00 p01 p02 p03 p10 p11 p12 p13 ha hb hb0 hb1 G
    go_wp2
    refine bodyPost_ret (v := .agg #[.bool f1, .slice c1 n1 d1]) (by simp [results, Tryd.results65, go_sem, V.c0, V.c1]) rfl ⟨_, _, _, _, rfl, ((GF.off O (by omega)).mono (by omega)), hw2.trans (O.below (by omega))⟩
  · obtain ⟨P0, P1, R0, hb0, hsz⟩ := box3 w (.bool p) (.slice a na ca) (.bool q) (.slice b nb cb) (.bool false) (.slice none 0 0) 25
    replace ha := ha.below hb0
    replace hb := hb.below hb0
    go_enter Tryd.func65, Tryd.ntmps65
    go_wp2_with fail
    generalize ((w.alloc (.cells #[.bool p, .slice a na ca] 25)).alloc (.cells #[.bool q, .slice b nb cb] 25)).alloc (.cells #[.bool false, .slice none 0 0] 25) = W0 at *
    obtain ⟨p00, p01, p02, p03⟩ := id P0
    obtain ⟨p10, p11, p12, p13⟩ := id P1
    refine (subT _ ha hb (by omega) (by omega)).mono ?_
    rintro e w2 ⟨f1, c1, n1, d1, rfl, G, hb1⟩
    have GF : GI w2 W0.heap.size (.agg #[.bool f1, .slice c1 n1 d1]) (x - y) (2 * S + 1) := G.le (by omega)
    have R1 := R0.below hb1
    have hw2 := bel_tr hb0 hb1
    obtain ⟨r0, r1, r2, r3⟩ := id R1
    obtain ⟨V, O⟩ := R1.set (.bool f1) (.slice c1 n1 d1)
    clear P0 P1 R0 p00 p01 p02 p03 p10 p11 p12 p13 ha hb hb0 hb1 G
    go_wp2
    refine bodyPost_ret (v := .agg #[.bool f1, .slice c1 n1 d1]) (by simp [results, Tryd.results65, go_sem, V.c0, V.c1]) rfl ⟨_, _, _, _, rfl, ((GF.off O (by omega)).mono (by omega)), hw2.trans (O.below (by omega))⟩
  · obtain ⟨P0, P1, R0, hb0, hsz⟩ := box3 w (.bool p) (.slice a na ca) (.bool q) (.slice b nb cb) (.bool false) (.slice none 0 0) 25
    replace ha := ha.below hb0
    replace hb := hb.below hb0
    go_enter Tryd.func65, Tryd.ntmps65
    go_wp2_with fail
    generalize ((w.alloc (.cells #[.bool p, .slice a na ca] 25)).alloc (.cells #[.bool q, .slice b nb cb] 25)).alloc (.cells #[.bool false, .slice none 0 0] 25) = W0 at *
    obtain ⟨p00, p01, p02, p03⟩ := id P0
    obtain ⟨p10, p11, p12, p13⟩ := id P1
    refine (mulT _ ha hb (by omega) (by omega)).mono ?_
    rintro e w2 ⟨f1, c1, n1, d1, rfl, G, hb1⟩
    have GF : GI w2 W0.heap.size (.agg #[.bool f1, .slice c1 n1 d1]) (x * y) (2 * S + 1) := G.le (by omega)
    have R1 := R0.below hb1
    have hw2 := bel_tr hb0 hb1
    obtain ⟨r0, r1, r2, r3⟩ := id R1
    obtain ⟨V, O⟩ := R1.set (.bool f1) (.slice c1 n1 d1)
    clear P0 P1 R0 p00 p01 p02 p03 p10 p11 p12 p13 ha hb hb0 hb1 G
    go_wp2
    refine bodyPost_ret (v := .agg #[.bool f1, .slice c1 n1 d1]) (by simp [results, Tryd.results65, go_sem, V.c0, V.c1]) rfl ⟨_, _, _, _, rfl, ((GF.off O (by omega)).mono (by omega)), hw2.trans (O.below (by omega))⟩

set_option maxHeartbeats 1000000 in
theorem shouldT {a b : Option Addr} {p q : Bool} {na nb ca cb : Nat} {x y : Int} {S : Nat} (op : Nat) (w : World) (ha : TI w p a na ca x S) (hb : TI w q b nb cb y S) (hS : S ≤ 5000000) (hop : op < 3) :
    Calls Tryd.prog 64 #[.int .i64 (op : Int), .agg #[.bool p, .slice a na ca], .agg #[.bool q, .slice b nb cb]] w fun e w' => ∃ f c n d, e = .returned (.agg #[.bool f, .slice c n d]) ∧ GI w' w.heap.size (.agg #[.bool f, .slice c n d]) (opv op x y) (4 * S + 1) ∧ Below w.heap.size w w' := by
  rcases (by omega : op = 0 ∨ op = 1 ∨ op = 2) with rfl | rfl | rfl
  · obtain ⟨P0, P1, R0, hb0, hsz⟩ := box3 w (.bool p) (.slice a na ca) (.bool q) (.slice b nb cb) (.bool false) (.slice none 0 0) 25
    replace ha := ha.below hb0
    replace hb := hb.below hb0
    go_enter Tryd.func64, Tryd.ntmps64
    go_wp2_with fail
    generalize ((w.alloc (.cells #[.bool p, .slice a na ca] 25)).alloc (.cells #[.bool q, .slice b nb cb] 25)).alloc (.cells #[.bool false, .slice none 0 0] 25) = W0 at *
    obtain ⟨p00, p01, p02, p03⟩ := id P0
    obtain ⟨p10, p11, p12, p13⟩ := id P1
    refine (raddT _ ha hb (by omega)).mono ?_
    rintro e w2 ⟨f1, c1, n1, d1, rfl, G, hb1⟩
    have GF : GI w2 W0.heap.size (.agg #[.bool f1, .slice c1 n1 d1]) (x + y) (4 * S + 1) := G.le (by omega)
    have R1 := R0.below hb1
    have hw2 := bel_tr hb0 hb1
    obtain ⟨r0, r1, r2, r3⟩ := id R1
    obtain ⟨V, O⟩ := R1.set (.bool f1) (.slice c1 n1 d1)
    clear P0 P1 R0 p00 p01 p02 p03 p10 p11 p12 p13 ha hb hb0 hb1 G
    go_wp2
    refine bodyPost_ret (v := .agg #[.bool f1, .slice c1 n1 d1]) (by simp [results, Tryd.results64, go_sem, V.c0, V.c1]) rfl ⟨_, _, _, _, rfl, ((GF.off O (by omega)).mono (by omega)), hw2.trans (O.below (by omega))⟩
  · obtain ⟨P0, P1, R0, hb0, hsz⟩ := box3 w (.bool p) (.slice a na ca) (.bool q) (.slice b nb cb) (.bool false) (.slice none 0 0) 25
    replace ha := ha.below hb0
    replace hb := hb.below hb0
    go_enter Tryd.func64, Tryd.ntmps64
    go_wp2_with fail
    generalize ((w.alloc (.cells #[.bool p, .slice a na ca] 25)).alloc (.cells #[.bool q, .slice b nb cb] 25)).alloc (.cells #[.bool false, .slice none 0 0] 25) = W0 at *
    obtain ⟨p00, p01, p02, p03⟩ := id P0
    obtain ⟨p10, p11, p12, p13⟩ := id P1
    refine (rsubT _ ha hb (by omega)).mono ?_
    rintro e w2 ⟨f1, c1, n1, d1, rfl, G, hb1⟩
    have GF : GI w2 W0.heap.size (.agg #[.bool f1, .slice c1 n1 d1]) (x - y) (4 * S + 1) := G.le (by omega)
    have R1 := R0.below hb1
    have hw2 := bel_tr hb0 hb1
    obtain ⟨r0, r1, r2, r3⟩ := id R1
    obtain ⟨V, O⟩ := R1.set (.bool f1) (.slice c1 n1 d1)
    clear P0 P1 R0 p00 p01 p02 p03 p10 p11 p12 p13 ha hb hb0 hb1 G
    go_wp2
    refine bodyPost_ret (v := .agg #[.bool f1, .slice c1 n1 d1]) (by simp [results, Tryd.results64, go_sem, V.c0, V.c1]) rfl ⟨_, _, _, _, rfl, ((GF.off O (by omega)).mono (by omega)), hw2.trans (O.below (by omega))⟩
  · obtain ⟨P0, P1, R0, hb0, hsz⟩ := box3 w (.bool p) (.slice a na ca) (.bool q) (.slice b nb cb) (.bool false) (.slice none 0 0) 25
    replace ha := ha.below hb0
    replace hb := hb.below hb0
    go_enter Tryd.func64, Tryd.ntmps64
    go_wp2_with fail
    generalize ((w.alloc (.cells #[.bool p, .slice a na ca] 25)).alloc (.cells #[.bool q, .slice b nb cb] 25)).alloc (.cells #[.bool false, .slice none 0 0] 25) = W0 at *
    obtain ⟨p00, p01, p02, p03⟩ := id P0
    obtain ⟨p10, p11, p12, p13⟩ := id P1
    refine (rmulT _ ha hb (by omega)).mono ?_
    rintro e w2 ⟨f1, c1, n1, d1, rfl, G, hb1⟩
    have GF : GI w2 W0.heap.size (.agg #[.bool f1, .slice c1 n1 d1]) (x * y) (4 * S + 1) := G.le (by omega)
    have R1 := R0.below hb1
    have hw2 := bel_tr hb0 hb1
    obtain ⟨r0, r1, r2, r3⟩ := id R1
    obtain ⟨V, O⟩ := R1.set (.bool f1) (.slice c1 n1 d1)
    clear P0 P1 R0 p00 p01 p02 p03 p10 p11 p12 p13 ha hb hb0 hb1 G
    go_wp2
    refine bodyPost_ret (v := .agg #[.bool f1, .slice c1 n1 d1]) (by simp [results, Tryd.results64, go_sem, V.c0, V.c1]) rfl ⟨_, _, _, _, rfl, ((GF.off O (by omega)).mono (by omega)), hw2.trans (O.below (by omega))⟩

end Go.Proofs.YtfelogbfijomiaaDoor

import Derived.Test.YtfelogbfijomiaaDoorR2A
import Derived.Test.YtfelogbfijomiaaDoorR2B
namespace Go.Proofs.YtfelogbfijomiaaDoor
open Go.RowKit

set_option maxHeartbeats 1000000 in
/-- the document's Mul -/
theorem rmulI {a b : Option Addr} {na nb ca cb : Nat} {m k : Int} {S : Nat} (p q : Bool) (w : World) (ha : Num w a na ca m S) (hb : Num w b nb cb k S) (hS : S ≤ 11000000) :
    Calls Tryd.prog 85 #[.agg #[.bool p, .slice a na ca], .agg #[.bool q, .slice b nb cb]] w fun e w' => ∃ f c n d, e = .returned (.agg #[.bool f, .slice c n d]) ∧ GI w' w.heap.size (.agg #[.bool f, .slice c n d]) (ws p m * ws q k) (4 * S + 1) ∧ Below w.heap.size w w' := by
  obtain ⟨P0, P1, R0, hb0, hsz⟩ := box3 w (.bool p) (.slice a na ca) (.bool q) (.slice b nb cb) (.bool false) (.slice none 0 0) 25
  replace ha := ha.below hb0
  replace hb := hb.below hb0
  go_enter Tryd.func85, Tryd.ntmps85
  go_wp2_with fail
  generalize ((w.alloc (.cells #[.bool p, .slice a na ca] 25)).alloc (.cells #[.bool q, .slice b nb cb] 25)).alloc (.cells #[.bool false, .slice none 0 0] 25) = W0 at *
  obtain ⟨p00, p01, p02, p03⟩ := id P0
  obtain ⟨p10, p11, p12, p13⟩ := id P1
  go_region_held3 (fun w' => w'.cell? ⟨w.heap.size, 0, none⟩ = some (.bool p) ∧ w'.cell? ⟨w.heap.size, 1, none⟩ = some (.slice a na ca) ∧ w'.cell? ⟨w.heap.size + 1, 0, none⟩ = some (.bool q) ∧ w'.cell? ⟨w.heap.size + 1, 1, none⟩ = some (.slice b nb cb))
    (first | (go_keep; done) | (refine ⟨?_, ?_, ?_, ?_⟩ <;> first | exact kept_c hb2 (by go_keep) | exact kept_c hb1 (by go_keep)) | (refine ⟨?_, ?_, ?_, ?_⟩ <;> first | exact set2_far (by go_keep) (by simp <;> omega) | exact kept_c (by assumption) (by assumption)))
    ((first
      | (go_at_call 100; go_fit (rmulV _ (ha.drewN _) (hb.drewN _) (by omega)); rintro e w1 ⟨c0, n0, d0, rfl, G1, hb1⟩; have hc1 := bel_tr (belN (Below.refl _ W0) _) hb1; have R1 := R0.below hc1)
      | (go_at_call 38; go_fit (rfromI _ _ G1.num (by omega)); rintro e w2 ⟨f1, c1, n1, d1, rfl, G2, hb2⟩; have hc2 : Below w1.heap.size w1 w2 := (by first | exact hb2 | exact bel_tr (belN (Below.refl _ w1) 1) hb2); have R2 := R1.below hc2; obtain ⟨r0, r1, r2, r3⟩ := id R2)))
  have hs1 := hc1.size
  have GF : GI w2 w1.heap.size (.agg #[.bool f1, .slice c1 n1 d1]) (ws p m * ws q k) (4 * S + 1) := G2.val (by rw [ws_mul]; cases p <;> cases q <;> rfl)
  have hw2 : Below w.heap.size w w2 := bel_tr hb0 (bel_tr hc1 hc2)
  obtain ⟨V, O⟩ := R2.set (.bool f1) (.slice c1 n1 d1)
  clear hb1 hb2 hc1 hc2 ha hb P0 P1 R0 R1 p00 p01 p02 p03 p10 p11 p12 p13 G1 G2
  go_wp2
  refine bodyPost_ret (v := .agg #[.bool f1, .slice c1 n1 d1]) (by simp [results, Tryd.results85, go_sem, V.c0, V.c1]) rfl ⟨_, _, _, _, rfl, ((GF.off O (by omega)).mono (by omega)), hw2.trans (O.below (by omega))⟩

end Go.Proofs.YtfelogbfijomiaaDoor

import Derived.Test.YtfaccnmiopcneaaGreatDoorR2All
import Derived.Test.YtfaccnmiopcneaaGreatDoorR2E
import Derived.Test.YtfaccnmiopcneaaGreatDoorRefNAll
import Derived.Test.YtfaccnmiopcneaaGreatDoorWhEAll
namespace Go.Proofs.YtfaccnmiopcneaaGreatDoor
open Go.RowKit

theorem Num.lt {w : World} {a : Option Addr} {n c : Nat} {x : Int} {S : Nat} (h : Num w a n c x S) : x < pw S := by
  obtain ⟨xs, h1, h2, h3, h4, h5, h6⟩ := h
  have h7 := val_lt h4
  have h8 := pw_mono (show xs.length ≤ S by omega)
  rw [← h5]; omega
theorem GI.off_ne {w w' : World} {B R : Nat} {f : Bool} {c : Option Addr} {n d : Nat} {x : Int} {S : Nat} (h : GI w B (.agg #[.bool f, .slice c n d]) x S) (ho : Off R w w') (hne : ∀ g, (Value.slice c n d).ownBlock = some g → g ≠ R) : GI w' B (.agg #[.bool f, .slice c n d]) x S := by
  obtain ⟨a', n', c', h1, h2⟩ := h
  simp only [Value.agg.injEq, Array.mk.injEq, List.cons.injEq, and_true] at h1
  obtain ⟨h0, h1⟩ := h1
  simp only [Value.slice.injEq] at h1
  obtain ⟨rfl, rfl, rfl⟩ := h1
  refine ⟨c, n, d, by rw [h0], ?_⟩
  obtain ⟨xs, k1, k2⟩ := h2
  refine ⟨xs, ⟨k1.1, ?_⟩, k2⟩
  rcases k1.2 with hn | ⟨g, cap, cur, e1, e2, hgb, rest⟩
  · exact .inl hn
  · exact .inr ⟨g, cap, cur, e1, e2, (ho.block g (hne g (by rw [e1]; rfl))).trans hgb, rest⟩
theorem Num.le {w : World} {a : Option Addr} {n c : Nat} {x : Int} {S R : Nat} (h : Num w a n c x S) (hR : S ≤ R) : Num w a n c x R := by
  obtain ⟨xs, h1, h2, h3, h4, h5, h6⟩ := h
  exact ⟨xs, h1, h2, h3, h4, h5, by omega⟩
set_option maxHeartbeats 1000000 in
/-- the document's QuoRem -/
theorem rquoI {a b : Option Addr} {na nb ca cb : Nat} {m k : Int} {S : Nat} (p q : Bool) (w : World) (ha : Num w a na ca m S) (hb : Num w b nb cb k S) (hS : S ≤ 2000000) (hk : 0 < k) :
    Calls Tryz.prog 122 #[.agg #[.bool p, .slice a na ca], .agg #[.bool q, .slice b nb cb]] w fun e w' => ∃ f c n d f' c' n' d', e = .returned (.tuple #[.agg #[.bool f, .slice c n d], .agg #[.bool f', .slice c' n' d']]) ∧ GI w' w.heap.size (.agg #[.bool f, .slice c n d]) (ws (p != q) (m / k)) (S) ∧ GI w' w.heap.size (.agg #[.bool f', .slice c' n' d']) (ws p (m % k)) (S) ∧ Below w.heap.size w w' := by
  have hm0 := ha.nn
  have hm1 := ha.lt
  have L1 : m / k < pw S := Int.lt_of_le_of_lt (Int.ediv_le_self k hm0) hm1
  have L2 : m % k < pw S := Int.lt_of_le_of_lt (by
    have h1 := Int.mul_ediv_add_emod m k
    have h2 := Int.mul_nonneg (Int.le_of_lt hk) (Int.ediv_nonneg hm0 (Int.le_of_lt hk))
    omega) hm1
  obtain ⟨P0, P1, R0, R1, hb0, hsz⟩ := box4 w (.bool p) (.slice a na ca) (.bool q) (.slice b nb cb) (.bool false) (.slice none 0 0) (.bool false) (.slice none 0 0) 25
  replace ha := ha.below hb0
  replace hb := hb.below hb0
  go_enter Tryz.func122, Tryz.ntmps122
  go_wp2_with fail
  generalize (((w.alloc (.cells #[.bool p, .slice a na ca] 25)).alloc (.cells #[.bool q, .slice b nb cb] 25)).alloc (.cells #[.bool false, .slice none 0 0] 25)).alloc (.cells #[.bool false, .slice none 0 0] 25) = W0 at *
  obtain ⟨p00, p01, p02, p03⟩ := id P0
  obtain ⟨p10, p11, p12, p13⟩ := id P1
  refine (rdivV _ ha hb (by omega) (by omega) hk).mono ?_
  rintro e w1 ⟨c, n, d, c', n', d', rfl, G1, G2, hb1⟩
  replace G1 := G1.shrink L1
  replace G2 := G2.shrink L2
  replace P0 := P0.below hb1
  replace P1 := P1.below hb1
  replace R0 := R0.below hb1
  replace R1 := R1.below hb1
  replace hb0 := bel_tr hb0 hb1
  have hs1 := hb1.size
  clear p00 p01 p02 p03 p10 p11 p12 p13 hb1 ha hb L1 L2 hm0 hm1
  obtain ⟨p00, p01, p02, p03⟩ := id P0
  obtain ⟨p10, p11, p12, p13⟩ := id P1
  go_wp2_with fail
  go_region_held3 (fun w' => w'.cell? ⟨w.heap.size, 0, none⟩ = some (.bool p) ∧ w'.cell? ⟨w.heap.size, 1, none⟩ = some (.slice a na ca) ∧ w'.cell? ⟨w.heap.size + 1, 0, none⟩ = some (.bool q) ∧ w'.cell? ⟨w.heap.size + 1, 1, none⟩ = some (.slice b nb cb))
    (first | (go_keep; done) | (refine ⟨?_, ?_, ?_, ?_⟩ <;> first | exact kept_c hbB (by go_keep) | exact kept_c hbA (by go_keep)) | (refine ⟨?_, ?_, ?_, ?_⟩ <;> first | exact set2_far (by go_keep) (by simp <;> omega) | exact kept_c (by assumption) (by assumption)))
    ((first
      | (go_at_call 60; go_fit (rfromI (!(p == q)) _ (G1.num.drewN _) (by omega)); rintro e wA ⟨f1, c1, n1, d1, rfl, GA, hbA⟩; have hcA : Below w1.heap.size w1 wA := (by first | exact hbA | exact bel_tr (belN (Below.refl _ w1) 1) hbA); have RA0 := R0.below hcA; have RA1 := R1.below hcA)
      | (go_at_call 60; go_fit (rfromI p _ (G2.num.below hcA) (by omega)); rintro e wB ⟨f2, c2, n2, d2, rfl, GB, hbB⟩; have hcB : Below wA.heap.size wA wB := (by first | exact hbB | exact bel_tr (belN (Below.refl _ wA) 1) hbB); have RB0 := RA0.below hcB; have RB1 := RA1.below hcB; obtain ⟨r0, r1, r2, r3⟩ := id RB0; obtain ⟨t0, t1, t2, t3⟩ := id RB1)))
  obtain ⟨V, O⟩ := RB0.set (.bool f1) (.slice c1 n1 d1)
  have RB1' := RB1.off O (by omega)
  obtain ⟨V1, O1⟩ := RB1'.set (.bool f2) (.slice c2 n2 d2)
  have V0 := V.off O1 (by omega)
  have hw := ((bel_tr (bel_tr hb0 hcA) hcB).trans (O.below (by omega))).trans (O1.below (by omega))
  have hsA := hcA.size
  have K1 : GI _ (w.heap.size + 4) _ (ws (p != q) (m / k)) S := ((((GA.below hcB).mono (B' := w.heap.size + 4) (by show _ ≤ w1.heap.size; omega)).off O (by omega)).off O1 (by omega))
  have K2 : GI _ (w.heap.size + 4) _ (ws p (m % k)) S := (((GB.mono (B' := w.heap.size + 4) (by show _ ≤ wA.heap.size; omega)).off O (by omega)).off O1 (by omega))
  clear hbA hbB hcA hcB P0 P1 R0 R1 RA0 RA1 p00 p01 p02 p03 p10 p11 p12 p13 hb0 RB0 RB1 RB1' r0 r1 r2 r3 t0 t1 t2 t3 G1 G2 GA GB O O1
  go_wp2
  refine bodyPost_ret (v := .tuple #[.agg #[.bool f1, .slice c1 n1 d1], .agg #[.bool f2, .slice c2 n2 d2]]) (by simp [results, Tryz.results122, go_sem, V0.c0, V0.c1, V1.c0, V1.c1]) rfl ⟨_, _, _, _, _, _, _, _, rfl, K1.mono (by omega), K2.mono (by omega), hw⟩
end Go.Proofs.YtfaccnmiopcneaaGreatDoor

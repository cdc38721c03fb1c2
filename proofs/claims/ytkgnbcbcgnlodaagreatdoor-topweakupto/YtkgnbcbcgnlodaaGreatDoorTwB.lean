import Derived.Test.YtkgnbcbcgnlodaaGreatDoorPvF0
import Derived.Test.YtkgnbcbcgnlodaaGreatDoorWdAll
namespace Go.Proofs.YtkgnbcbcgnlodaaGreatDoor
open Go.RowKit
set_option maxRecDepth 100000 in
set_option maxHeartbeats 4000000 in
/-- Is a value better than another one? -/
theorem betterT (P : Prob) (t : Bool) {p q : Bool} {a b : Option Addr} {na nb ca cb : Nat} {d e0 : Option Addr} {nd ne cd ce : Nat} {r s : Rat} {S R : Nat} (w : World) (hr : TR w p a na ca d nd cd r S) (hs1 : TR w q b nb cb e0 ne ce s R) (hSR : S + R ≤ 6000000) (hS1 : 1 ≤ S) (hR1 : 1 ≤ R) (ht : t = true ↔ btr P r s) :
    Calls Tryz.prog 16 #[P.val, .agg #[.bool p, .slice a na ca, .slice d nd cd], .agg #[.bool q, .slice b nb cb, .slice e0 ne ce]] w fun e w' => e = .returned (.bool t) ∧ Below w.heap.size w w' := by
  unfold Prob.val
  unfold btr at ht
  cases hmx : P.mx
  · rw [hmx, if_neg (by decide)] at ht
    have HT : Hid (t = true ↔ r < s) := ht
    clear ht hmx
    obtain ⟨B0, B1, B2, hb, hs⟩ := boxc3 w #[.bool false, .string P.nm, .bool P.p, .slice P.a P.na P.ca, .slice P.d P.nd P.cd, .slice P.va P.vn P.vc, .slice P.ra P.rn P.rc] 31 #[.bool p, .slice a na ca, .slice d nd cd] 27 #[.bool q, .slice b nb cb, .slice e0 ne ce] 27
    have p0 := B0 0 _ rfl
    have a0 := B1 0 _ rfl
    have a1 := B1 1 _ rfl
    have a2 := B1 2 _ rfl
    have b0 := B2 0 _ rfl
    have b1 := B2 1 _ rfl
    have b2 := B2 2 _ rfl
    clear B0 B1 B2
    have hr' := hr.below hb
    have hs' := hs1.below hb
    go_enter Tryz.func16, Tryz.ntmps16
    go_wp2_with fail
    generalize ((w.alloc (.cells #[.bool false, .string P.nm, .bool P.p, .slice P.a P.na P.ca, .slice P.d P.nd P.cd, .slice P.va P.vn P.vc, .slice P.ra P.rn P.rc] 31)).alloc (.cells #[.bool p, .slice a na ca, .slice d nd cd] 27)).alloc (.cells #[.bool q, .slice b nb cb, .slice e0 ne ce] 27) = W0 at *
    obtain ⟨z, ez⟩ : ∃ z, z = cs r s := ⟨_, rfl⟩
    refine (cmpD z W0 hr' hs' hSR hS1 hR1 ez).mono ?_
    rintro e w1 ⟨rfl, h1⟩
    have hb1 := bel_tr hb h1
    have HT2 : Hid (t = decide (z < 0)) := by
      show t = decide (z < 0)
      rw [ez]
      have h2 : t = true ↔ cs r s < 0 := HT.out.trans cs_lt_iff.symm
      cases t
      · symm
        rw [decide_eq_false_iff_not]
        intro h3
        have := h2.2 h3
        cases this
      · symm
        rw [decide_eq_true_iff]
        exact h2.1 rfl
    clear h1 ez HT p0 a0 a1 a2 b0 b1 b2 hr' hs' hb
    go_wp2
    go_ret
    exact ⟨by rw [HT2.out]; try simp, hb1⟩
  · rw [hmx, if_pos rfl] at ht
    have HT : Hid (t = true ↔ s < r) := ht
    clear ht hmx
    obtain ⟨B0, B1, B2, hb, hs⟩ := boxc3 w #[.bool true, .string P.nm, .bool P.p, .slice P.a P.na P.ca, .slice P.d P.nd P.cd, .slice P.va P.vn P.vc, .slice P.ra P.rn P.rc] 31 #[.bool p, .slice a na ca, .slice d nd cd] 27 #[.bool q, .slice b nb cb, .slice e0 ne ce] 27
    have p0 := B0 0 _ rfl
    have a0 := B1 0 _ rfl
    have a1 := B1 1 _ rfl
    have a2 := B1 2 _ rfl
    have b0 := B2 0 _ rfl
    have b1 := B2 1 _ rfl
    have b2 := B2 2 _ rfl
    clear B0 B1 B2
    have hr' := hr.below hb
    have hs' := hs1.below hb
    go_enter Tryz.func16, Tryz.ntmps16
    go_wp2_with fail
    generalize ((w.alloc (.cells #[.bool true, .string P.nm, .bool P.p, .slice P.a P.na P.ca, .slice P.d P.nd P.cd, .slice P.va P.vn P.vc, .slice P.ra P.rn P.rc] 31)).alloc (.cells #[.bool p, .slice a na ca, .slice d nd cd] 27)).alloc (.cells #[.bool q, .slice b nb cb, .slice e0 ne ce] 27) = W0 at *
    obtain ⟨z, ez⟩ : ∃ z, z = cs r s := ⟨_, rfl⟩
    refine (cmpD z W0 hr' hs' hSR hS1 hR1 ez).mono ?_
    rintro e w1 ⟨rfl, h1⟩
    have hb1 := bel_tr hb h1
    have HT2 : Hid (t = decide (0 < z)) := by
      show t = decide (0 < z)
      rw [ez]
      have h2 : t = true ↔ 0 < cs r s := HT.out.trans cs_gt_iff.symm
      cases t
      · symm
        rw [decide_eq_false_iff_not]
        intro h3
        have := h2.2 h3
        cases this
      · symm
        rw [decide_eq_true_iff]
        exact h2.1 rfl
    clear h1 ez HT p0 a0 a1 a2 b0 b1 b2 hr' hs' hb
    go_wp2
    go_ret
    exact ⟨by rw [HT2.out]; try simp, hb1⟩
end Go.Proofs.YtkgnbcbcgnlodaaGreatDoor

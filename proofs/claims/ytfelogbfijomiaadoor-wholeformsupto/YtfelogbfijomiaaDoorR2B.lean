import Derived.Test.YtfelogbfijomiaaDoorR2A
namespace Go.Proofs.YtfelogbfijomiaaDoor
open Go.RowKit

set_option maxHeartbeats 1000000 in
/-- the document's Cmp -/
theorem rcmpI {a b : Option Addr} {na nb ca cb : Nat} {m k : Int} {S R : Nat} (p q : Bool) (w : World) (ha : Num w a na ca m S) (hb : Num w b nb cb k R) (hS : S ≤ 20000000) (hR : R ≤ 20000000) :
    Calls Tryd.prog 33 #[.agg #[.bool p, .slice a na ca], .agg #[.bool q, .slice b nb cb]] w fun e w' => e = .returned (.int .i64 (ws p m - ws q k).sign) ∧ Below w.heap.size w w' := by
  obtain ⟨P0, P1, hb0, hsz⟩ := box2 w (.bool p) (.slice a na ca) (.bool q) (.slice b nb cb) 25
  replace ha := ha.below hb0
  replace hb := hb.below hb0
  go_enter Tryd.func33, Tryd.ntmps33
  go_wp2_with fail
  generalize (w.alloc (.cells #[.bool p, .slice a na ca] 25)).alloc (.cells #[.bool q, .slice b nb cb] 25) = W0 at *
  obtain ⟨p00, p01, p02, p03⟩ := id P0
  obtain ⟨p10, p11, p12, p13⟩ := id P1
  refine (rsignI p _ ha (by omega)).mono ?_
  rintro e w1 ⟨rfl, hb1⟩
  replace P0 := P0.below hb1
  replace P1 := P1.below hb1
  replace ha := ha.below hb1
  replace hb := hb.below hb1
  replace hb0 := bel_tr hb0 hb1
  clear hb1 p00 p01 p02 p03 p10 p11 p12 p13
  obtain ⟨p00, p01, p02, p03⟩ := id P0
  obtain ⟨p10, p11, p12, p13⟩ := id P1
  go_wp2_with fail
  refine (rsignI q _ hb (by omega)).mono ?_
  rintro e w2 ⟨rfl, hb1⟩
  replace P0 := P0.below hb1
  replace P1 := P1.below hb1
  replace ha := ha.below hb1
  replace hb := hb.below hb1
  replace hb0 := bel_tr hb0 hb1
  clear hb1 p00 p01 p02 p03 p10 p11 p12 p13
  obtain ⟨p00, p01, p02, p03⟩ := id P0
  obtain ⟨p10, p11, p12, p13⟩ := id P1
  have n1 := ha.nn
  have n2 := hb.nn
  have x1 : ws p m = m ∨ ws p m = -m := by unfold ws; cases p <;> simp
  have x2 : ws q k = k ∨ ws q k = -k := by unfold ws; cases q <;> simp
  have g1 := sign_is (ws p m)
  have g2 := sign_is (ws q k)
  generalize (ws p m).sign = s1 at *
  generalize (ws q k).sign = s2 at *
  obtain ⟨X, hX⟩ : ∃ X, ws p m = X := ⟨_, rfl⟩
  obtain ⟨Y, hY⟩ : ∃ Y, ws q k = Y := ⟨_, rfl⟩
  have HE : Hid (ws p m - ws q k = X - Y) := by show _ = _; rw [hX, hY]
  rw [hX] at x1 g1
  rw [hY] at x2 g2
  have HG : Hid (∀ c, ((c = 0 ∧ X - Y = 0) ∨ (c = -1 ∧ X - Y < 0) ∨ (c = 1 ∧ 0 < X - Y)) → c = (X - Y).sign) := fun c h => sign_of h
  clear hX hY
  rcases (by omega : s1 < s2 ∨ s2 < s1 ∨ s1 = s2) with h | h | h
  · have HZ : Hid (-1 = (X - Y).sign) := HG.out _ (by omega)
    have h2 : s1 ≠ s2 := by omega
    clear ha hb g1 g2 x1 x2 n1 n2 HG
    go_wp2
    go_ret
    exact ⟨by rw [HE.out, ← HZ.out]; rfl, hb0⟩
  · have HZ : Hid (1 = (X - Y).sign) := HG.out _ (by omega)
    have h' : ¬ s1 < s2 := by omega
    have h2 : s1 ≠ s2 := by omega
    clear ha hb g1 g2 x1 x2 n1 n2 HG
    go_wp2
    go_ret
    exact ⟨by rw [HE.out, ← HZ.out]; rfl, hb0⟩
  · subst h
    have HC : Hid (∀ c : Int, ((c = 0 ∧ m = k) ∨ (c = -1 ∧ m < k) ∨ (c = 1 ∧ k < m)) → IntKind.i64.wrap (s1 * c) = (X - Y).sign) := by
      intro c hc
      have e : s1 * c = (X - Y).sign := HG.out _ (by rcases hc with ⟨rfl, h⟩ | ⟨rfl, h⟩ | ⟨rfl, h⟩ <;> simp <;> omega)
      rw [e]
      rcases sign_is (X - Y) with ⟨h, _⟩ | ⟨h, _⟩ | ⟨h, _⟩ <;> rw [h] <;> rfl
    clear g1 g2 x1 x2 n1 n2 HG
    go_wp2_with fail
    refine (refcmpV _ ha hb (by omega) (by omega)).mono ?_
    rintro e w3 ⟨c, rfl, hc, hb1⟩
    have hD : IntKind.i64.wrap (s1 * c) = (X - Y).sign := HC.out c hc
    have hw3 := bel_tr hb0 hb1
    clear hc ha hb HC hb0 hb1 P0 P1 p00 p01 p02 p03 p10 p11 p12 p13
    go_wp2
    go_ret
    exact ⟨by rw [HE.out]; rfl, hw3⟩
end Go.Proofs.YtfelogbfijomiaaDoor

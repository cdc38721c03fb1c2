import Derived.Test.YtfelogbfijomiabGreatDoorWhD
import Derived.Test.YtfelogbfijomiabGreatDoorText
import Derived.Test.YtfelogbfijomiabGreatDoorDivS
namespace Go.Proofs.YtfelogbfijomiabGreatDoor
open Go.RowKit

/-- The text of a whole number. -/
def txtI (x : Int) : ByteArray := if x < 0 then strOfNums [45] ++ txt x.natAbs else txt x.natAbs
theorem txt_size {w : World} {a : Option Addr} {n c : Nat} {m : Int} {S : Nat} (h : Num w a n c m S) : (txt m.toNat).size ≤ 20 * S + 1 := by
  obtain ⟨xs, h1, h2, h3, h4, h5, h6⟩ := h
  have h7 := decs_val h4
  rw [h5] at h7
  unfold txt
  split
  · rw [strOfNums_size]; simp
  · rw [strOfNums_size]; simp; omega
set_option maxHeartbeats 1000000 in
/-- whole.Text -/
theorem textI {a : Option Addr} {na ca : Nat} {m : Int} {S : Nat} (p : Bool) (w : World) (ha : Num w a na ca m S) (hS : S ≤ 10000000000) :
    Calls Tryz.prog 58 #[.agg #[.bool p, .slice a na ca]] w fun e w' => e = .returned (.string (txtI (ws p m))) ∧ Below w.heap.size w w' := by
  have h0 := ha.nn
  have HT : Hid (m.toNat = (ws p m).natAbs) := by show _ = _; have := ws_abs (b := p) h0; omega
  have HS := sign_is (ws p m)
  have hXs := txt_size ha
  obtain ⟨P0, hb0, hsz⟩ := box1 w (.bool p) (.slice a na ca) 28
  replace ha := ha.below hb0
  go_enter Tryz.func58, Tryz.ntmps58
  go_wp2_with fail
  generalize w.alloc (.cells #[.bool p, .slice a na ca] 28) = W0 at *
  obtain ⟨p00, p01, p02, p03⟩ := id P0
  refine (text_any _ ha (by omega)).mono ?_
  rintro e w1 ⟨rfl, hb1⟩
  replace P0 := P0.below hb1
  replace ha := ha.below hb1
  replace hb0 := bel_tr hb0 hb1
  clear p00 p01 p02 p03 hb1
  obtain ⟨p00, p01, p02, p03⟩ := id P0
  generalize hX : txt m.toNat = X at *
  go_wp2_with fail
  refine (signI p _ ha hS).mono ?_
  rintro e w2 ⟨rfl, hb2⟩
  replace hb0 := bel_tr hb0 hb2
  by_cases hx : ws p m < 0
  · have hs : (ws p m).sign = -1 := by omega
    have HR : Hid (txtI (ws p m) = strOfNums [45] ++ X) := by show _ = _; unfold txtI; rw [if_pos hx, ← hX, HT.out]
    rw [hs]
    clear hX P0 ha HS hs hx hb2
    go_wp2
    go_ret
    exact ⟨by rw [HR.out]; rfl, hb0⟩
  · have hs : 0 ≤ (ws p m).sign := by omega
    have HR : Hid (txtI (ws p m) = X) := by show _ = _; unfold txtI; rw [if_neg hx, ← hX, HT.out]
    generalize (ws p m).sign = sn at *
    clear hX P0 ha HS hx hb2
    go_wp2
    go_ret
    exact ⟨by rw [HR.out]; rfl, hb0⟩

set_option maxHeartbeats 1000000 in
/-- whole.QuoRem -/
theorem quoI {a b : Option Addr} {na nb ca cb : Nat} {m k : Int} {S R : Nat} (p q : Bool) (w : World) (ha : Num w a na ca m S) (hb : Num w b nb cb k R) (hS : S ≤ 10000000) (hR : R ≤ 10000000) (hk : 0 < k) :
    Calls Tryz.prog 47 #[.agg #[.bool p, .slice a na ca], .agg #[.bool q, .slice b nb cb]] w fun e w' => ∃ c n d c' n' d', e = .returned (.tuple #[.agg #[.bool (decide (ws (p != q) (m / k) < 0)), .slice c n d], .agg #[.bool (decide (ws p (m % k) < 0)), .slice c' n' d'], .nilIface]) ∧
      Got w' w.heap.size (.slice c n d) (m / k) (S + 1) ∧ Got w' w.heap.size (.slice c' n' d') (m % k) (S + 1) ∧ (∀ g, (Value.slice c n d).ownBlock = some g → (Value.slice c' n' d').ownBlock ≠ some g) ∧ Below w.heap.size w w' := by
  obtain ⟨P0, P1, R0, R1, hb0, hsz⟩ := box4 w (.bool p) (.slice a na ca) (.bool q) (.slice b nb cb) (.bool false) (.slice none 0 0) (.bool false) (.slice none 0 0) 28
  replace ha := ha.below hb0
  replace hb := hb.below hb0
  go_enter Tryz.func47, Tryz.ntmps47
  go_wp2_with fail
  generalize (((w.alloc (.cells #[.bool p, .slice a na ca] 28)).alloc (.cells #[.bool q, .slice b nb cb] 28)).alloc (.cells #[.bool false, .slice none 0 0] 28)).alloc (.cells #[.bool false, .slice none 0 0] 28) = W0 at *
  obtain ⟨p00, p01, p02, p03⟩ := id P0
  obtain ⟨p10, p11, p12, p13⟩ := id P1
  refine (divG _ ha hb hS hR hk).mono ?_
  rintro e w1 ⟨c, n, d, c', n', d', rfl, G1, G2, hdis, hb1⟩
  replace P0 := P0.below hb1
  replace P1 := P1.below hb1
  replace R0 := R0.below hb1
  replace R1 := R1.below hb1
  replace hb0 := bel_tr hb0 hb1
  have hs1 := hb1.size
  clear p00 p01 p02 p03 p10 p11 p12 p13 hb1 ha hb
  obtain ⟨p00, p01, p02, p03⟩ := id P0
  obtain ⟨p10, p11, p12, p13⟩ := id P1
  go_wp2_with fail
  go_region_held3 (fun w' => w'.cell? ⟨w.heap.size, 0, none⟩ = some (.bool p) ∧ w'.cell? ⟨w.heap.size, 1, none⟩ = some (.slice a na ca) ∧ w'.cell? ⟨w.heap.size + 1, 0, none⟩ = some (.bool q) ∧ w'.cell? ⟨w.heap.size + 1, 1, none⟩ = some (.slice b nb cb))
    (first | (go_keep; done) | (refine ⟨?_, ?_, ?_, ?_⟩ <;> first | exact kept_c hbB (by go_keep) | exact kept_c hbA (by go_keep)) | (refine ⟨?_, ?_, ?_, ?_⟩ <;> first | exact set2_far (by go_keep) (by simp <;> omega) | exact kept_c (by assumption) (by assumption)))
    ((first
      | (go_at_call 65; go_fit (signed_any (!(p == q)) _ _ _ _); rintro e wA ⟨rfl, hbA⟩; have hcA : Below w1.heap.size w1 wA := (by first | exact hbA | exact bel_tr (belN (Below.refl _ w1) 1) hbA); have RA0 := R0.below hcA; have RA1 := R1.below hcA)
      | (go_at_call 65; go_fit (signed_any p _ _ _ _); rintro e wB ⟨rfl, hbB⟩; have hcB : Below wA.heap.size wA wB := (by first | exact hbB | exact bel_tr (belN (Below.refl _ wA) 1) hbB); have RB0 := RA0.below hcB; have RB1 := RA1.below hcB; obtain ⟨r0, r1, r2, r3⟩ := id RB0; obtain ⟨t0, t1, t2, t3⟩ := id RB1)))
  obtain ⟨V, O⟩ := RB0.set (.bool (!(p == q) && decide (0 < n))) (.slice c n d)
  have RB1' := RB1.off O (by omega)
  obtain ⟨V1, O1⟩ := RB1'.set (.bool (p && decide (0 < n'))) (.slice c' n' d')
  have V0 := V.off O1 (by omega)
  have hw := ((bel_tr (bel_tr hb0 hcA) hcB).trans (O.below (by omega))).trans (O1.below (by omega))
  have K1 := (((G1.below hcA).below hcB).off O (by omega)).off O1 (by omega)
  have K2 := (((G2.below hcA).below hcB).off O (by omega)).off O1 (by omega)
  obtain ⟨g10, g11⟩ := G1.pos
  obtain ⟨g20, g21⟩ := G2.pos
  have e1 : (!(p == q) && decide (0 < n)) = decide (ws (p != q) (m / k) < 0) := by rw [← ws_lt g10]; simp only [g11]; rfl
  have e2 : (p && decide (0 < n')) = decide (ws p (m % k) < 0) := by rw [← ws_lt g20]; simp only [g21]
  have HE1 : Hid ((!(p == q) && decide (0 < n)) = decide (ws (p != q) (m / k) < 0)) := e1
  have HE2 : Hid ((p && decide (0 < n')) = decide (ws p (m % k) < 0)) := e2
  clear hbA hbB hcA hcB P0 P1 R0 R1 RA0 RA1 p00 p01 p02 p03 p10 p11 p12 p13 hb0 RB0 RB1 RB1' r0 r1 r2 r3 t0 t1 t2 t3 G1 G2 g10 g11 g20 g21 O O1 e1 e2
  go_wp2
  refine bodyPost_ret (v := .tuple #[.agg #[.bool (!(p == q) && decide (0 < n)), .slice c n d], .agg #[.bool (p && decide (0 < n')), .slice c' n' d'], .nilIface]) (by simp [results, Tryz.results47, go_sem, V0.c0, V0.c1, V1.c0, V1.c1]) rfl ⟨c, n, d, c', n', d', ?_, K1.mono (by omega), K2.mono (by omega), hdis, hw⟩
  rw [HE1.out, HE2.out]

end Go.Proofs.YtfelogbfijomiabGreatDoor

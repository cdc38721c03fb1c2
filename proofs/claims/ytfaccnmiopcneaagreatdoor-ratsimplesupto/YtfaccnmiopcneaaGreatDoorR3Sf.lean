import Derived.Test.YtfaccnmiopcneaaGreatDoorR3Se
import Derived.Test.YtfaccnmiopcneaaGreatDoorR3Cm
import Derived.Deep.RegionHeld3
namespace Go.Proofs.YtfaccnmiopcneaaGreatDoor
open Go.RowKit

set_option maxHeartbeats 4000000 in
/-- rat.Simplest, where the ends are crossed -/
theorem simplestE {p q : Bool} {a b : Option Addr} {na nb ca cb : Nat} {d e0 : Option Addr} {nd ne cd ce : Nat} {r s : Rat} {S : Nat} (w : World) (hr : TR w p a na ca d nd cd r S) (hs : TR w q b nb cb e0 ne ce s S) (hS : S ≤ 3000000) (hS1 : 1 ≤ S) (hrs : s < r) {ev : Value} (E : Errs w 1 ev) :
    Calls Tryz.prog 5 #[.agg #[.bool p, .slice a na ca, .slice d nd cd], .agg #[.bool q, .slice b nb cb, .slice e0 ne ce]] w fun e w' => e = .returned (.tuple #[.agg #[.bool false, .slice none 0 0, .slice none 0 0], ev]) ∧ Below w.heap.size w w' := by
  obtain ⟨P0, P1, R0, hb0, hsz⟩ := box_rrr w (.bool p) (.slice a na ca) (.slice d nd cd) (.bool q) (.slice b nb cb) (.slice e0 ne ce) (.bool false) (.slice none 0 0) (.slice none 0 0) 27
  replace hr := hr.below hb0
  replace hs := hs.below hb0
  replace E := E.below hb0
  go_enter Tryz.func5, Tryz.ntmps5
  obtain ⟨p0c0, p0c1, p0c2, p0c3, p0c4, p0c5⟩ := id P0
  obtain ⟨p1c0, p1c1, p1c2, p1c3, p1c4, p1c5⟩ := id P1
  go_wp2_with fail
  generalize ((w.alloc (.cells #[.bool p, .slice a na ca, .slice d nd cd] 27)).alloc (.cells #[.bool q, .slice b nb cb, .slice e0 ne ce] 27)).alloc (.cells #[.bool false, .slice none 0 0, .slice none 0 0] 27) = W0 at *
  obtain ⟨t, ht⟩ : ∃ t, t = cs r s := ⟨_, rfl⟩
  refine (cmpB t _ hr hs (by omega) hS1 hS1 ht).mono ?_
  rintro e w1 ⟨rfl, hx⟩
  have ht0 : 0 < t := by rw [ht, cs_gt]; exact hrs
  have hs1 := Below.size hx
  replace R0 := R0.below hx
  replace E := E.below hx
  replace hb0 := bel_tr hb0 hx
  clear p0c0 p0c1 p0c2 p0c3 p0c4 p0c5 p1c0 p1c1 p1c2 p1c3 p1c4 p1c5
  clear hx ht P0 P1 hr hs
  obtain ⟨r0, r1, r2, r3, r4, r5⟩ := id R0
  have E0 := E
  obtain ⟨ec, pp, rfl⟩ := E0
  obtain ⟨V, O⟩ := R0.set (.bool false) (.slice none 0 0) (.slice none 0 0)
  have hw := hb0.trans (O.below (by omega))
  clear E hb0 R0 O
  go_wp2_with fail
  go_region
  have V' := V.below (bel_d1 _)
  go_wp2
  refine bodyPost_ret (v := .tuple #[.agg #[.bool false, .slice none 0 0, .slice none 0 0], .iface 173 (.pointer (some pp))]) (by simp [results, Tryz.results5, go_sem, V'.c0, V'.c1, V'.c2]) rfl ⟨rfl, belN hw 1⟩
set_option maxHeartbeats 4000000 in
/-- rat.Simplest, above nought -/
theorem simplestP {p q : Bool} {a b : Option Addr} {na nb ca cb : Nat} {d e0 : Option Addr} {nd ne cd ce : Nat} {r s : Rat} {S : Nat} (w : World) (hr : TR w p a na ca d nd cd r S) (hs : TR w q b nb cb e0 ne ce s S) (hS : S ≤ 3000000) (hS1 : 1 ≤ S) (hrs : r ≤ s) (hr0 : 0 < r) (hT : TB w) :
    Calls Tryz.prog 5 #[.agg #[.bool p, .slice a na ca, .slice d nd cd], .agg #[.bool q, .slice b nb cb, .slice e0 ne ce]] w fun e w' => ∃ f c n k c' n' k' z, e = .returned (.tuple #[.agg #[.bool f, .slice c n k, .slice c' n' k'], .nilIface]) ∧ GR w' w.heap.size f c n k c' n' k' z S ∧ Best r s z ∧ Below w.heap.size w w' := by
  obtain ⟨P0, P1, R0, hb0, hsz⟩ := box_rrr w (.bool p) (.slice a na ca) (.slice d nd cd) (.bool q) (.slice b nb cb) (.slice e0 ne ce) (.bool false) (.slice none 0 0) (.slice none 0 0) 27
  replace hr := hr.below hb0
  replace hs := hs.below hb0
  replace hT := hT.below hb0
  go_enter Tryz.func5, Tryz.ntmps5
  obtain ⟨p0c0, p0c1, p0c2, p0c3, p0c4, p0c5⟩ := id P0
  obtain ⟨p1c0, p1c1, p1c2, p1c3, p1c4, p1c5⟩ := id P1
  go_wp2_with fail
  generalize ((w.alloc (.cells #[.bool p, .slice a na ca, .slice d nd cd] 27)).alloc (.cells #[.bool q, .slice b nb cb, .slice e0 ne ce] 27)).alloc (.cells #[.bool false, .slice none 0 0, .slice none 0 0] 27) = W0 at *
  obtain ⟨t, ht⟩ : ∃ t, t = cs r s := ⟨_, rfl⟩
  refine (cmpB t _ hr hs (by omega) hS1 hS1 ht).mono ?_
  rintro e w1 ⟨rfl, hx⟩
  have ht0 : ¬ 0 < t := by rw [ht, cs_gt]; exact Rat.not_lt.2 hrs
  clear ht
  have hs1 := Below.size hx
  replace hr := hr.below hx
  replace hs := hs.below hx
  replace hT := hT.below hx
  replace P0 := P0.below hx
  replace P1 := P1.below hx
  replace R0 := R0.below hx
  replace hb0 := bel_tr hb0 hx
  clear p0c0 p0c1 p0c2 p0c3 p0c4 p0c5 p1c0 p1c1 p1c2 p1c3 p1c4 p1c5
  clear hx
  obtain ⟨p0c0, p0c1, p0c2, p0c3, p0c4, p0c5⟩ := id P0
  obtain ⟨p1c0, p1c1, p1c2, p1c3, p1c4, p1c5⟩ := id P1
  go_wp2_with fail
  obtain ⟨u, hu⟩ : ∃ u, u = r.num.sign := ⟨_, rfl⟩
  refine (rsignB u _ hr (by omega) hS1 hu).mono ?_
  rintro e w2 ⟨rfl, hx⟩
  have hs2 := Below.size hx
  have hu0 : 0 < u := by rw [hu, sign_pos_iff, num_pos_iff]; exact hr0
  clear hu
  replace hr := hr.below hx
  replace hs := hs.below hx
  replace hT := hT.below hx
  replace P0 := P0.below hx
  replace P1 := P1.below hx
  replace R0 := R0.below hx
  replace hb0 := bel_tr hb0 hx
  clear p0c0 p0c1 p0c2 p0c3 p0c4 p0c5 p1c0 p1c1 p1c2 p1c3 p1c4 p1c5
  clear hx
  obtain ⟨p0c0, p0c1, p0c2, p0c3, p0c4, p0c5⟩ := id P0
  obtain ⟨p1c0, p1c1, p1c2, p1c3, p1c4, p1c5⟩ := id P1
  go_wp2_with fail
  refine (aboveR _ hr hs hr0 hrs hS hS1).mono ?_
  rintro e w3 ⟨fz, cz, nz, kz, dz, mz, lz, z, rfl, GZ, hB, hx⟩
  have HBest : Hid (Best r s z) := hB
  have hs3 := Below.size hx
  replace R0 := R0.below hx
  replace hb0 := bel_tr hb0 hx
  clear p0c0 p0c1 p0c2 p0c3 p0c4 p0c5 p1c0 p1c1 p1c2 p1c3 p1c4 p1c5
  clear hx hB hr hs hT P0 P1
  obtain ⟨r0, r1, r2, r3, r4, r5⟩ := id R0
  obtain ⟨V, O⟩ := R0.set (.bool fz) (.slice cz nz kz) (.slice dz mz lz)
  have GF := (GZ.off O (by omega)).mono (B' := w.heap.size) (by omega)
  have hw := hb0.trans (O.below (by omega))
  clear R0 O hb0 GZ
  go_wp2
  refine bodyPost_ret (v := .tuple #[.agg #[.bool fz, .slice cz nz kz, .slice dz mz lz], .nilIface]) (by simp [results, Tryz.results5, go_sem, V.c0, V.c1, V.c2]) rfl ⟨_, _, _, _, _, _, _, _, rfl, GF, HBest.out, hw⟩
set_option maxHeartbeats 4000000 in
/-- rat.Simplest, about nought -/
theorem simplestZ {p q : Bool} {a b : Option Addr} {na nb ca cb : Nat} {d e0 : Option Addr} {nd ne cd ce : Nat} {r s : Rat} {S : Nat} (w : World) (hr : TR w p a na ca d nd cd r S) (hs : TR w q b nb cb e0 ne ce s S) (hS : S ≤ 3000000) (hS1 : 1 ≤ S) (hr0 : r ≤ 0) (hs0 : 0 ≤ s) (hT : TB w) :
    Calls Tryz.prog 5 #[.agg #[.bool p, .slice a na ca, .slice d nd cd], .agg #[.bool q, .slice b nb cb, .slice e0 ne ce]] w fun e w' => ∃ f c n k c' n' k' z, e = .returned (.tuple #[.agg #[.bool f, .slice c n k, .slice c' n' k'], .nilIface]) ∧ GR w' w.heap.size f c n k c' n' k' z S ∧ Best r s z ∧ Below w.heap.size w w' := by
  obtain ⟨P0, P1, R0, hb0, hsz⟩ := box_rrr w (.bool p) (.slice a na ca) (.slice d nd cd) (.bool q) (.slice b nb cb) (.slice e0 ne ce) (.bool false) (.slice none 0 0) (.slice none 0 0) 27
  replace hr := hr.below hb0
  replace hs := hs.below hb0
  replace hT := hT.below hb0
  go_enter Tryz.func5, Tryz.ntmps5
  obtain ⟨p0c0, p0c1, p0c2, p0c3, p0c4, p0c5⟩ := id P0
  obtain ⟨p1c0, p1c1, p1c2, p1c3, p1c4, p1c5⟩ := id P1
  go_wp2_with fail
  generalize ((w.alloc (.cells #[.bool p, .slice a na ca, .slice d nd cd] 27)).alloc (.cells #[.bool q, .slice b nb cb, .slice e0 ne ce] 27)).alloc (.cells #[.bool false, .slice none 0 0, .slice none 0 0] 27) = W0 at *
  obtain ⟨t, ht⟩ : ∃ t, t = cs r s := ⟨_, rfl⟩
  refine (cmpB t _ hr hs (by omega) hS1 hS1 ht).mono ?_
  rintro e w1 ⟨rfl, hx⟩
  have ht0 : ¬ 0 < t := by rw [ht, cs_gt]; exact Rat.not_lt.2 (Rat.le_trans hr0 hs0)
  clear ht
  have hs1 := Below.size hx
  replace hr := hr.below hx
  replace hs := hs.below hx
  replace hT := hT.below hx
  replace P0 := P0.below hx
  replace P1 := P1.below hx
  replace R0 := R0.below hx
  replace hb0 := bel_tr hb0 hx
  clear p0c0 p0c1 p0c2 p0c3 p0c4 p0c5 p1c0 p1c1 p1c2 p1c3 p1c4 p1c5
  clear hx
  obtain ⟨p0c0, p0c1, p0c2, p0c3, p0c4, p0c5⟩ := id P0
  obtain ⟨p1c0, p1c1, p1c2, p1c3, p1c4, p1c5⟩ := id P1
  go_wp2_with fail
  obtain ⟨u, hu⟩ : ∃ u, u = r.num.sign := ⟨_, rfl⟩
  refine (rsignB u _ hr (by omega) hS1 hu).mono ?_
  rintro e w2 ⟨rfl, hx⟩
  have hs2 := Below.size hx
  have hu0 : ¬ 0 < u := by rw [hu, sign_pos_iff, num_pos_iff]; exact Rat.not_lt.2 hr0
  clear hu
  replace hr := hr.below hx
  replace hs := hs.below hx
  replace hT := hT.below hx
  replace P0 := P0.below hx
  replace P1 := P1.below hx
  replace R0 := R0.below hx
  replace hb0 := bel_tr hb0 hx
  clear p0c0 p0c1 p0c2 p0c3 p0c4 p0c5 p1c0 p1c1 p1c2 p1c3 p1c4 p1c5
  clear hx
  obtain ⟨p0c0, p0c1, p0c2, p0c3, p0c4, p0c5⟩ := id P0
  obtain ⟨p1c0, p1c1, p1c2, p1c3, p1c4, p1c5⟩ := id P1
  go_wp2_with fail
  obtain ⟨v, hv⟩ : ∃ v, v = s.num.sign := ⟨_, rfl⟩
  refine (rsignB v _ hs (by omega) hS1 hv).mono ?_
  rintro e w3 ⟨rfl, hx⟩
  have hs3 := Below.size hx
  have hv0 : ¬ v < 0 := by rw [hv, sign_neg_iff, num_neg_iff]; exact Rat.not_lt.2 hs0
  clear hv
  replace R0 := R0.below hx
  replace hb0 := bel_tr hb0 hx
  clear p0c0 p0c1 p0c2 p0c3 p0c4 p0c5 p1c0 p1c1 p1c2 p1c3 p1c4 p1c5
  clear hx hr hs hT P0 P1
  go_wp2_with fail
  refine (ofQ 0 _ (by decide) (by decide)).mono ?_
  rintro e w4 ⟨fz, cz, nz, kz, dz, mz, lz, rfl, GZ, hx⟩
  have HBest : Hid (Best r s ((0 : Int) : Rat)) := Best.zero hr0 hs0
  replace GZ := GZ.le (S' := S) hS1
  have hs4 := Below.size hx
  replace R0 := R0.below hx
  replace hb0 := bel_tr hb0 hx
  clear hx
  obtain ⟨r0, r1, r2, r3, r4, r5⟩ := id R0
  obtain ⟨V, O⟩ := R0.set (.bool fz) (.slice cz nz kz) (.slice dz mz lz)
  have GF := (GZ.off O (by omega)).mono (B' := w.heap.size) (by omega)
  have hw := hb0.trans (O.below (by omega))
  clear R0 O hb0 GZ
  go_wp2
  refine bodyPost_ret (v := .tuple #[.agg #[.bool fz, .slice cz nz kz, .slice dz mz lz], .nilIface]) (by simp [results, Tryz.results5, go_sem, V.c0, V.c1, V.c2]) rfl ⟨_, _, _, _, _, _, _, _, rfl, GF, HBest.out, hw⟩
set_option maxHeartbeats 4000000 in
/-- rat.Simplest, below nought -/
theorem simplestN {p q : Bool} {a b : Option Addr} {na nb ca cb : Nat} {d e0 : Option Addr} {nd ne cd ce : Nat} {r s : Rat} {S : Nat} (w : World) (hr : TR w p a na ca d nd cd r S) (hs : TR w q b nb cb e0 ne ce s S) (hS : S ≤ 3000000) (hS1 : 1 ≤ S) (hrs : r ≤ s) (hs0 : s < 0) (hT : TB w) :
    Calls Tryz.prog 5 #[.agg #[.bool p, .slice a na ca, .slice d nd cd], .agg #[.bool q, .slice b nb cb, .slice e0 ne ce]] w fun e w' => ∃ f c n k c' n' k' z, e = .returned (.tuple #[.agg #[.bool f, .slice c n k, .slice c' n' k'], .nilIface]) ∧ GR w' w.heap.size f c n k c' n' k' z S ∧ Best r s z ∧ Below w.heap.size w w' := by
  obtain ⟨P0, P1, R0, hb0, hsz⟩ := box_rrr w (.bool p) (.slice a na ca) (.slice d nd cd) (.bool q) (.slice b nb cb) (.slice e0 ne ce) (.bool false) (.slice none 0 0) (.slice none 0 0) 27
  replace hr := hr.below hb0
  replace hs := hs.below hb0
  replace hT := hT.below hb0
  go_enter Tryz.func5, Tryz.ntmps5
  obtain ⟨p0c0, p0c1, p0c2, p0c3, p0c4, p0c5⟩ := id P0
  obtain ⟨p1c0, p1c1, p1c2, p1c3, p1c4, p1c5⟩ := id P1
  go_wp2_with fail
  generalize ((w.alloc (.cells #[.bool p, .slice a na ca, .slice d nd cd] 27)).alloc (.cells #[.bool q, .slice b nb cb, .slice e0 ne ce] 27)).alloc (.cells #[.bool false, .slice none 0 0, .slice none 0 0] 27) = W0 at *
  obtain ⟨t, ht⟩ : ∃ t, t = cs r s := ⟨_, rfl⟩
  refine (cmpB t _ hr hs (by omega) hS1 hS1 ht).mono ?_
  rintro e w1 ⟨rfl, hx⟩
  have ht0 : ¬ 0 < t := by rw [ht, cs_gt]; exact Rat.not_lt.2 hrs
  clear ht
  have hs1 := Below.size hx
  replace hr := hr.below hx
  replace hs := hs.below hx
  replace hT := hT.below hx
  replace P0 := P0.below hx
  replace P1 := P1.below hx
  replace R0 := R0.below hx
  replace hb0 := bel_tr hb0 hx
  clear p0c0 p0c1 p0c2 p0c3 p0c4 p0c5 p1c0 p1c1 p1c2 p1c3 p1c4 p1c5
  clear hx
  obtain ⟨p0c0, p0c1, p0c2, p0c3, p0c4, p0c5⟩ := id P0
  obtain ⟨p1c0, p1c1, p1c2, p1c3, p1c4, p1c5⟩ := id P1
  go_wp2_with fail
  obtain ⟨u, hu⟩ : ∃ u, u = r.num.sign := ⟨_, rfl⟩
  refine (rsignB u _ hr (by omega) hS1 hu).mono ?_
  rintro e w2 ⟨rfl, hx⟩
  have hs2 := Below.size hx
  have hr0 : r ≤ 0 := Rat.le_trans hrs (Rat.le_of_lt hs0)
  have hu0 : ¬ 0 < u := by rw [hu, sign_pos_iff, num_pos_iff]; exact Rat.not_lt.2 hr0
  clear hu
  replace hr := hr.below hx
  replace hs := hs.below hx
  replace hT := hT.below hx
  replace P0 := P0.below hx
  replace P1 := P1.below hx
  replace R0 := R0.below hx
  replace hb0 := bel_tr hb0 hx
  clear p0c0 p0c1 p0c2 p0c3 p0c4 p0c5 p1c0 p1c1 p1c2 p1c3 p1c4 p1c5
  clear hx
  obtain ⟨p0c0, p0c1, p0c2, p0c3, p0c4, p0c5⟩ := id P0
  obtain ⟨p1c0, p1c1, p1c2, p1c3, p1c4, p1c5⟩ := id P1
  go_wp2_with fail
  obtain ⟨v, hv⟩ : ∃ v, v = s.num.sign := ⟨_, rfl⟩
  refine (rsignB v _ hs (by omega) hS1 hv).mono ?_
  rintro e w3 ⟨rfl, hx⟩
  have hs3 := Below.size hx
  have hv0 : v < 0 := by rw [hv, sign_neg_iff, num_neg_iff]; exact hs0
  clear hv
  replace hr := hr.below hx
  replace hs := hs.below hx
  replace hT := hT.below hx
  replace P0 := P0.below hx
  replace P1 := P1.below hx
  replace R0 := R0.below hx
  replace hb0 := bel_tr hb0 hx
  clear p0c0 p0c1 p0c2 p0c3 p0c4 p0c5 p1c0 p1c1 p1c2 p1c3 p1c4 p1c5
  clear hx
  obtain ⟨p0c0, p0c1, p0c2, p0c3, p0c4, p0c5⟩ := id P0
  obtain ⟨p1c0, p1c1, p1c2, p1c3, p1c4, p1c5⟩ := id P1
  have hR0 := R0.lt
  have HB : ∀ w', Below (w.heap.size + 2) w3 w' → w'.cell? ⟨w.heap.size + 1, 0, none⟩ = some (.bool q) ∧ w'.cell? ⟨w.heap.size + 1, 1, none⟩ = some (.slice b nb cb) ∧ w'.cell? ⟨w.heap.size + 1, 2, none⟩ = some (.slice e0 ne ce) ∧ w'.cell? ⟨w.heap.size, 0, none⟩ = some (.bool p) ∧ w'.cell? ⟨w.heap.size, 1, none⟩ = some (.slice a na ca) ∧ w'.cell? ⟨w.heap.size, 2, none⟩ = some (.slice d nd cd) := fun w' h => by
    have V := P0.of_block (h.block w.heap.size (by omega))
    have V' := P1.of_block (h.block (w.heap.size + 1) (by omega))
    exact ⟨V'.c0, V'.c1, V'.c2, V.c0, V.c1, V.c2⟩
  have hn0 : 0 < -s := by have := Rat.neg_lt_neg hs0; rwa [Rat.neg_zero] at this
  have hn1 : -s ≤ -r := Rat.neg_le_neg hrs
  go_wp2_with fail
  go_region_held3 (fun w' => w'.cell? ⟨w.heap.size + 1, 0, none⟩ = some (.bool q) ∧ w'.cell? ⟨w.heap.size + 1, 1, none⟩ = some (.slice b nb cb) ∧ w'.cell? ⟨w.heap.size + 1, 2, none⟩ = some (.slice e0 ne ce) ∧ w'.cell? ⟨w.heap.size, 0, none⟩ = some (.bool p) ∧ w'.cell? ⟨w.heap.size, 1, none⟩ = some (.slice a na ca) ∧ w'.cell? ⟨w.heap.size, 2, none⟩ = some (.slice d nd cd))
    (with_reducible refine HB _ ?_; repeat' (first | with_reducible exact hm4 | with_reducible exact hm3 | with_reducible exact hm2 | with_reducible exact hm1 | with_reducible exact Below.refl _ _ | with_reducible refine belDr ?_ | with_reducible refine belS3 ?_ ?_ | omega))
    ((first
      | (go_at_call 16; go_fit (negQ _ (hs.below (bel_d1 _)) (by omega) hS1 (hT.below (bel_d1 _))); rintro e v1 ⟨f1, c1, n1, k1, d1, m1, l1, rfl, K1, hb1⟩; have hc1 : Below w3.heap.size w3 v1 := bel_tr (bel_d1 w3) hb1; have hm1 : Below (w.heap.size + 2) w3 v1 := hc1.mono (by omega))
      | (go_at_call 16; go_fit (negQ _ (hr.below hc1) (by omega) hS1 (hT.below hc1)); rintro e v2 ⟨f2, c2, n2, k2, d2, m2, l2, rfl, K2, hb2⟩; have hc2 : Below w3.heap.size w3 v2 := bel_tr hc1 hb2; have hm2 : Below (w.heap.size + 2) w3 v2 := hc2.mono (by omega))
      | (go_at_call 15; go_fit (aboveR _ (K1.below hb2).tr K2.tr hn0 hn1 hS hS1); rintro e v3 ⟨f3, c3, n3, k3, d3, m3, l3, z, rfl, K3, hB, hb3⟩; have hc3 : Below w3.heap.size w3 v3 := bel_tr hc2 hb3; have hm3 : Below (w.heap.size + 2) w3 v3 := hc3.mono (by omega))
      | (go_at_call 16; go_fit (negQ _ K3.tr (by omega) hS1 (hT.below hc3)); rintro e v4 ⟨fz, cz, nz, kz, dz, mz, lz, rfl, GZ, hb4⟩; have hc4 : Below w3.heap.size w3 v4 := bel_tr hc3 hb4; have hm4 : Below (w.heap.size + 2) w3 v4 := hc4.mono (by omega); have RZ := R0.below hc4; obtain ⟨r0, r1, r2, r3, r4, r5⟩ := id RZ)))
  have HBest : Hid (Best r s (-z)) := hB.neg
  have hs4 := Below.size hc3
  replace hb0 := bel_tr hb0 hc4
  obtain ⟨V, O⟩ := RZ.set (.bool fz) (.slice cz nz kz) (.slice dz mz lz)
  have GF := (GZ.off O (by omega)).mono (B' := w.heap.size) (by omega)
  have hw := hb0.trans (O.below (by omega))
  clear R0 RZ O hb0 GZ K1 K2 K3 hr hs hT P0 P1 HB hb1 hb2 hb3 hb4 hc1 hc2 hc3 hc4 hm1 hm2 hm3 hm4 hB
  clear p0c0 p0c1 p0c2 p0c3 p0c4 p0c5 p1c0 p1c1 p1c2 p1c3 p1c4 p1c5
  go_wp2
  refine bodyPost_ret (v := .tuple #[.agg #[.bool fz, .slice cz nz kz, .slice dz mz lz], .nilIface]) (by simp [results, Tryz.results5, go_sem, V.c0, V.c1, V.c2]) rfl ⟨_, _, _, _, _, _, _, _, rfl, GF, HBest.out, hw⟩
/-- rat.Simplest -/
theorem simplestQ {p q : Bool} {a b : Option Addr} {na nb ca cb : Nat} {d e0 : Option Addr} {nd ne cd ce : Nat} {r s : Rat} {S : Nat} (w : World) (hr : TR w p a na ca d nd cd r S) (hs : TR w q b nb cb e0 ne ce s S) (hS : S ≤ 3000000) (hS1 : 1 ≤ S) (hrs : r ≤ s) (hT : TB w) :
    Calls Tryz.prog 5 #[.agg #[.bool p, .slice a na ca, .slice d nd cd], .agg #[.bool q, .slice b nb cb, .slice e0 ne ce]] w fun e w' => ∃ f c n k c' n' k' z, e = .returned (.tuple #[.agg #[.bool f, .slice c n k, .slice c' n' k'], .nilIface]) ∧ GR w' w.heap.size f c n k c' n' k' z S ∧ Best r s z ∧ Below w.heap.size w w' := by
  rcases Decidable.em (0 < r) with h | h
  · exact simplestP w hr hs hS hS1 hrs h hT
  · rcases Decidable.em (s < 0) with h2 | h2
    · exact simplestN w hr hs hS hS1 hrs h2 hT
    · exact simplestZ w hr hs hS hS1 (Rat.not_lt.1 h) (Rat.not_lt.1 h2) hT
end Go.Proofs.YtfaccnmiopcneaaGreatDoor

import Derived.Test.YtbkkepbmaadomaaGreatDoorNrGAll
import Derived.Test.YtbkkepbmaadomaaGreatDoorSNAll
import Derived.Test.YtbkkepbmaadomaaGreatDoorChGAll
namespace Go.Proofs.YtbkkepbmaadomaaGreatDoor
open Go.RowKit

theorem got_3 {w : World} : Got (w.alloc (.cells #[Value.int .u64 3] 22)) w.heap.size (.slice (some ⟨w.heap.size, 0, none⟩) 1 1) 3 1 := by
  have hbk : Blk (w.alloc (Obj.cells #[Value.int IntKind.u64 3] 22)) w.heap.size [3] := blk_new [3]
  have G0 := got_of_blk hbk (fun x hx => by simp at hx; subst hx; exact ⟨by omega, by omega⟩) (Nat.le_refl _) 1 rfl (S := 1) (by simp) (by simp)
  have e1 : tlen [(3 : Int)] = 1 := by decide
  have e2 : val [(3 : Int)] = 3 := by decide
  rwa [e1, e2] at G0
theorem got_8 {w : World} : Got (w.alloc (.cells #[Value.int .u64 8] 22)) w.heap.size (.slice (some ⟨w.heap.size, 0, none⟩) 1 1) 8 1 := by
  have hbk : Blk (w.alloc (Obj.cells #[Value.int IntKind.u64 8] 22)) w.heap.size [8] := blk_new [8]
  have G0 := got_of_blk hbk (fun x hx => by simp at hx; subst hx; exact ⟨by omega, by omega⟩) (Nat.le_refl _) 1 rfl (S := 1) (by simp) (by simp)
  have e1 : tlen [(8 : Int)] = 1 := by decide
  have e2 : val [(8 : Int)] = 8 := by decide
  rwa [e1, e2] at G0
theorem gr_three {w : World} {B : Nat} {f : Bool} {c : Option Addr} {n k : Nat} {c' : Option Addr} {n' k' : Nat} {S : Nat} (h : GR w B f c n k c' n' k' (Rat.divInt (ws false 6755399441055744) (ws false (1 * 2 ^ 54))) S) : f = false ∧ Got w B (.slice c n k) 3 S ∧ Got w B (.slice c' n' k') 8 S := by
  obtain ⟨⟨a, m, l, e, G⟩, H⟩ := h
  have hn : (Rat.divInt (ws false 6755399441055744) (ws false (1 * 2 ^ 54))).num = 3 := by decide +kernel
  have hd : ((Rat.divInt (ws false 6755399441055744) (ws false (1 * 2 ^ 54))).den : Int) = 8 := by decide +kernel
  rw [hn] at e G
  rw [hd] at H
  simp only [Value.agg.injEq, Array.mk.injEq, List.cons.injEq, Value.bool.injEq, Value.slice.injEq, and_true] at e
  obtain ⟨rfl, rfl, rfl, rfl⟩ := e
  exact ⟨rfl, G, H⟩
theorem exact38 (w : World) (hT : TB w) : Calls Tryz.prog 11 #[.float .f64 4600427019358961664] w fun e w' => ∃ c n k c' n' k', e = .returned (.tuple #[.agg #[.bool false, .slice c n k, .slice c' n' k'], .nilIface]) ∧ Got w' w.heap.size (.slice c n k) 3 1026 ∧ Got w' w.heap.size (.slice c' n' k') 8 1026 ∧ Below w.heap.size w w' := by
  refine (exactOkD (m := 6755399441055744) (q := 54) (sg := false) w (by decide) (by decide) (by decide) (by decide) (by decide) (by decide) (by decide) (by decide) hT).mono ?_
  rintro e w1 ⟨f, c, n, k, c', n', k', rfl, G, hx⟩
  obtain ⟨rfl, G1, G2⟩ := gr_three G
  exact ⟨_, _, _, _, _, _, rfl, G1, G2, hx⟩
theorem eq_tenth : (FloatKind.f64.format.order 4591870180066957722 4591870180066957722 == some .eq) = true := by decide +kernel
set_option maxRecDepth 100000 in
set_option maxHeartbeats 4000000 in
theorem awake4 (w : World) (hT : TB w) : Calls Tryz.prog 6 #[] w fun e w' => e = .returned (.bool true) ∧ Below w.heap.size w w' := by
  have HE := eq_tenth
  go_enter Tryz.func6, Tryz.ntmps6
  go_wp2_with fail
  have n1 := (reads_one (w := w) (z := 1)).2 (by decide)
  have n2 := (reads_one (w := w.alloc (.cells #[.int .u64 1] 22)) (z := 10)).2 (by decide)
  replace n1 := n1.below (bel_d0 _ (.cells #[.int .u64 10] 22))
  have hb0 := bel_tr (bel_d0 w (.cells #[.int .u64 1] 22)) (bel_d0 _ (.cells #[.int .u64 10] 22))
  rw [World.size_alloc] at n2
  generalize (w.alloc (.cells #[.int .u64 1] 22)).alloc (.cells #[.int .u64 10] 22) = W0 at *
  replace hT := hT.below hb0
  refine (floatTen _ n1 n2).mono ?_
  rintro e w1 ⟨rfl, hx⟩
  replace hT := hT.below hx
  replace hb0 := bel_tr hb0 hx
  clear hx n1 n2
  go_wp2_with fail
  refine (exact38 _ hT).mono ?_
  rintro e w2 ⟨c, n, k, c', n', k', rfl, G1, G2, hx⟩
  replace hb0 := bel_tr hb0 hx
  clear hx hT
  have P0 := var3_new w2 (.bool false) (.slice c n k) (.slice c' n' k') 35
  have hx := bel_d0 w2 (.cells #[.bool false, .slice c n k, .slice c' n' k'] 35)
  replace G1 := G1.below hx
  replace G2 := G2.below hx
  replace hb0 := bel_tr hb0 hx
  clear hx
  obtain ⟨c0, c1, c2, c3, c4, c5⟩ := id P0
  go_wp2_with fail
  have hs3 : (w2.alloc (.cells #[.bool false, .slice c n k, .slice c' n' k'] 35)).heap.size = w2.heap.size + 1 := by simp
  generalize w2.alloc (.cells #[.bool false, .slice c n k, .slice c' n' k'] 35) = w3 at *
  have g3 := got_3 (w := w3)
  rw [hs3] at g3
  have hx := bel_d0 w3 (.cells #[.int .u64 3] 22)
  replace G1 := G1.below hx
  replace G2 := G2.below hx
  replace P0 := P0.below hx
  replace hb0 := bel_tr hb0 hx
  clear hx c0 c1 c2 c3 c4 c5 hs3
  generalize w3.alloc (.cells #[.int .u64 3] 22) = w4 at *
  refine (sameG _ G1 g3 rfl (by decide)).mono ?_
  rintro e w5 ⟨rfl, hx⟩
  replace G2 := G2.below hx
  replace P0 := P0.below hx
  replace hb0 := bel_tr hb0 hx
  clear hx g3 G1
  obtain ⟨c0, c1, c2, c3, c4, c5⟩ := id P0
  go_wp2_with fail
  have g8 := got_8 (w := w5)
  have hx := bel_d0 w5 (.cells #[.int .u64 8] 22)
  replace G2 := G2.below hx
  replace P0 := P0.below hx
  replace hb0 := bel_tr hb0 hx
  clear hx c0 c1 c2 c3 c4 c5
  generalize w5.alloc (.cells #[.int .u64 8] 22) = w6 at *
  refine (sameG _ G2 g8 rfl (by decide)).mono ?_
  rintro e w7 ⟨rfl, hx⟩
  replace P0 := P0.below hx
  replace hb0 := bel_tr hb0 hx
  clear hx g8 G2
  obtain ⟨c0, c1, c2, c3, c4, c5⟩ := id P0
  go_wp2
  go_ret
  exact ⟨by simp, hb0⟩
end Go.Proofs.YtbkkepbmaadomaaGreatDoor

namespace Go.Proofs.YtbkkepbmaadomaaGreatDoor
open Go.RowKit

theorem got_dj {w w' : World} {B T : Nat} {v u : Value} {x y : Int} {S R : Nat} (h : Got w B v x S) (k : Got w' T u y R) (hT : w.heap.size ≤ T) : ∀ g, v.ownBlock = some g → u.ownBlock ≠ some g := by
  intro g hg e
  have := (h.lt g hg).2
  have := (k.lt g e).1
  omega
set_option maxHeartbeats 2000000 in
/-- rat.lowest -/
theorem lowestG {p q : Bool} {a b : Option Addr} {na nb ca cb : Nat} {x y : Int} {S : Nat} (w : World) (hx : TI w p a na ca x S) (hy : TI w q b nb cb y S) (hy0 : y ≠ 0) (hS : S ≤ 7000000) (hT : TB w) :
    Calls Tryz.prog 68 #[.agg #[.bool p, .slice a na ca], .agg #[.bool q, .slice b nb cb]] w fun e w' => ∃ f c n k c' n' k', e = .returned (.agg #[.bool f, .slice c n k, .slice c' n' k']) ∧ GR w' w.heap.size f c n k c' n' k' (Rat.divInt x y) (S) ∧ (∀ g, (Value.slice c n k).ownBlock = some g → (Value.slice c' n' k').ownBlock ≠ some g) ∧ Below w.heap.size w w' := by
  obtain ⟨m, ha, hmx⟩ := hx
  obtain ⟨k, hb, hky⟩ := hy
  have hm0 := ha.nn
  have hk0 : 0 < k := by
    have h := hb.nn
    rcases (by omega : k = 0 ∨ 0 < k) with h1 | h1
    · subst h1; rw [ws_zero] at hky; exact absurd hky.symm hy0
    · exact h1
  have HN : Hid ((Rat.divInt x y).num = ws (p != q) (m / (Nat.gcd m.toNat k.toNat : Nat))) := by show _ = _; rw [← hmx, ← hky]; exact low_num p q hm0 hk0
  have HD : Hid (((Rat.divInt x y).den : Int) = k / (Nat.gcd m.toNat k.toNat : Nat)) := by show _ = _; rw [← hmx, ← hky]; exact low_den p q hm0 hk0
  have hg0 : 0 < Nat.gcd m.toNat k.toNat := Nat.gcd_pos_of_pos_right _ (by omega)
  obtain ⟨g, hg⟩ : ∃ g : Nat, Nat.gcd m.toNat k.toNat = g := ⟨_, rfl⟩
  have HG : Hid (Nat.gcd m.toNat k.toNat = g) := hg
  rw [hg] at HN HD hg0
  have LM : m / (g : Int) < pw S := Int.lt_of_le_of_lt (Int.ediv_le_self _ hm0) (by obtain ⟨xs, h1, h2, h3, h4, h5, h6⟩ := ha; have h7 := val_lt h4; have h8 := pw_mono (show xs.length ≤ S by omega); rw [← h5]; omega)
  have LK : k / (g : Int) < pw S := Int.lt_of_le_of_lt (Int.ediv_le_self _ (by omega)) (by obtain ⟨xs, h1, h2, h3, h4, h5, h6⟩ := hb; have h7 := val_lt h4; have h8 := pw_mono (show xs.length ≤ S by omega); rw [← h5]; omega)
  clear hmx hky hg hy0
  have hbw := hb
  obtain ⟨P0, P1, R0, hb0, hsz⟩ := box_iir w (.bool p) (.slice a na ca) (.bool q) (.slice b nb cb) (.bool false) (.slice none 0 0) (.slice none 0 0) 35 33
  replace ha := ha.below hb0
  replace hb := hb.below hb0
  replace hT := hT.below hb0
  go_enter Tryz.func68, Tryz.ntmps68
  go_wp2_with fail
  generalize ((w.alloc (.cells #[.bool p, .slice a na ca] 33)).alloc (.cells #[.bool q, .slice b nb cb] 33)).alloc (.cells #[.bool false, .slice none 0 0, .slice none 0 0] 35) = W0 at *
  obtain ⟨p00, p01, p02, p03⟩ := id P0
  obtain ⟨p10, p11, p12, p13⟩ := id P1
  have HSZ : Hid (W0.heap.size = w.heap.size + 3) := hsz
  clear hsz
  go_region_held3 (fun w' => w'.cell? ⟨w.heap.size, 0, none⟩ = some (.bool p) ∧ w'.cell? ⟨w.heap.size, 1, none⟩ = some (.slice a na ca) ∧ w'.cell? ⟨w.heap.size + 1, 0, none⟩ = some (.bool q) ∧ w'.cell? ⟨w.heap.size + 1, 1, none⟩ = some (.slice b nb cb))
    (refine ⟨?_, ?_, ?_, ?_⟩ <;> first | with_reducible exact kept_c hc1 (by assumption) | with_reducible exact kept_c (bel_d1 _) (by assumption) | with_reducible exact kept_c (bel_d2 _ _) (by assumption) | with_reducible exact kept_c (bel_d3 _ _ _) (by assumption) | with_reducible exact kept_c (bel_tr hc1 (bel_d0 _ _)) (by assumption) | with_reducible exact set2_far (kept_c hc1 (by assumption)) (by have := HSZ.out; simp <;> omega))
    ((first
      | (go_at_call 102; go_fit (gcd2 _ (by first | exact (cell_l0 (by simp)).1 | exact kept_c (bel_d0 (W0.drew.alloc (.cells #[.slice a na ca, .slice b nb cb] 31)) _) (cell_l0 rfl).1) (by first | exact (cell_l0 (by simp)).2 | exact kept_c (bel_d0 (W0.drew.alloc (.cells #[.slice a na ca, .slice b nb cb] 31)) _) (cell_l0 rfl).2) (ha.below (by first | exact bel_d2 _ _ | exact bel_d3 _ _ _)) (hb.below (by first | exact bel_d2 _ _ | exact bel_d3 _ _ _)) (by omega) (hT.below (by first | exact bel_d2 _ _ | exact bel_d3 _ _ _))); rintro e w1 ⟨cg, ng, dg, rfl, G, hb1⟩; have hc1 : Below W0.heap.size W0 w1 := (by first | exact bel_tr (bel_d2 _ _) hb1 | exact bel_tr (bel_d3 _ _ _) hb1); have hsv1 := Below.size hc1; first | (have VA : Var2 w1 (W0.heap.size + 1) (.bool false) (.slice none 0 0) := (by have h := (var2_new (W0.drew.alloc (.cells #[.slice a na ca, .slice b nb cb] 31)) (.bool false) (.slice none 0 0) 33).below hb1; simpa using h); obtain ⟨y0, y1, y2, y3⟩ := id VA) | (have VA : Var2 w1 W0.heap.size (.bool false) (.slice none 0 0) := ((var2_new W0.drew (.bool false) (.slice none 0 0) 33).alloc _).below hb1; obtain ⟨y0, y1, y2, y3⟩ := id VA) | skip)))
  · have hc2 : Below W0.heap.size W0 (w1.alloc (.cells #[.bool q, .slice cg ng dg] 33)) := bel_tr hc1 (bel_d0 _ _)
    have V5 := var2_new w1 (.bool q) (.slice cg ng dg) 33
    have G2 := (G.below (bel_d0 w1 (.cells #[.bool q, .slice cg ng dg] 33))).mono (B' := W0.heap.size) (by simp)
    have hR5 : W0.heap.size ≤ w1.heap.size := hsv1
    clear G hb1 hc1
    obtain ⟨R5, hR5e⟩ : ∃ R5, w1.heap.size = R5 := ⟨_, rfl⟩
    generalize w1.alloc (.cells #[.bool q, .slice cg ng dg] 33) = w2 at *
    rw [hR5e] at V5 hR5 ⊢
    clear hR5e
    replace P0 := P0.below hc2
    replace P1 := P1.below hc2
    replace R0 := R0.below hc2
    replace ha := ha.below hc2
    replace hb := hb.below hc2
    replace hb0 := bel_tr hb0 hc2
    rw [HG.out] at G2
    have hs2 := Below.size hc2
    clear p00 p01 p02 p03 p10 p11 p12 p13 hc2
    obtain ⟨p00, p01, p02, p03⟩ := id P0
    obtain ⟨v50, v51, v52, v53⟩ := id V5
    have hsz := HSZ.out
    go_wp2_with fail
    refine (quoI p q _ ha G2.num (by omega) (by omega) (by omega)).mono ?_
    rintro e w3 ⟨c1, n1, d1, c1', n1', d1', rfl, K1, -, -, hx⟩
    replace K1 := K1.shrink LM
    obtain ⟨F, hF⟩ : ∃ F, decide (ws (p != q) (m / (g : Int)) < 0) = F := ⟨_, rfl⟩
    have HF : Hid (decide (ws (p != q) (m / (g : Int)) < 0) = F) := hF
    rw [hF]
    replace P0 := P0.below hx
    replace P1 := P1.below hx
    replace R0 := R0.below hx
    replace V5 := V5.below hx
    replace G2 := G2.below hx
    replace hb0 := bel_tr hb0 hx
    have hs3 := Below.size hx
    clear p00 p01 p02 p03 v50 v51 v52 v53 hx ha hb hF
    obtain ⟨p00, p01, p02, p03⟩ := id P0
    obtain ⟨V0, O0⟩ := P0.set (.bool F) (.slice c1 n1 d1)
    replace P1 := P1.off O0 (by omega)
    replace R0 := R0.off O0 (by omega)
    replace V5 := V5.off O0 (by omega)
    replace K1 := (K1.mono (B' := W0.heap.size) (by omega)).off O0 (by omega)
    replace G2 := G2.off O0 (by omega)
    replace hb0 := hb0.trans (O0.below (Nat.le_refl _))
    have hbk := hbw.below hb0
    have hs4 := O0.size
    clear P0 O0
    obtain ⟨p10, p11, p12, p13⟩ := id P1
    obtain ⟨v50, v51, v52, v53⟩ := id V5
    go_wp2_with fail
    generalize ((w3.setCell ⟨w.heap.size, 0, none⟩ (.bool F)).setCell ⟨w.heap.size, 1, none⟩ (.slice c1 n1 d1)) = w4 at *
    have KA := K1
    refine (quoI q q _ hbk G2.num (by omega) (by omega) (by omega)).mono ?_
    rintro e w5 ⟨c2, n2, d2, c2', n2', d2', rfl, K2, -, -, hx⟩
    have DJ := got_dj KA K2 (Nat.le_refl _)
    clear KA
    replace K2 := K2.shrink LK
    obtain ⟨F2, hF⟩ : ∃ F2, decide (ws (q != q) (k / (g : Int)) < 0) = F2 := ⟨_, rfl⟩
    rw [hF]
    replace V0 := V0.below hx
    replace P1 := P1.below hx
    replace R0 := R0.below hx
    replace K1 := K1.below hx
    replace hb0 := bel_tr hb0 hx
    have hs5 := Below.size hx
    clear p00 p01 p02 p03 p10 p11 p12 p13 v50 v51 v52 v53 hx hbk hF V5 G2
    obtain ⟨p10, p11, p12, p13⟩ := id P1
    obtain ⟨V1, O1⟩ := P1.set (.bool F2) (.slice c2 n2 d2)
    replace V0 := V0.off O1 (by omega)
    replace R0 := R0.off O1 (by omega)
    replace K1 := K1.off O1 (by omega)
    replace K2 := (K2.mono (B' := W0.heap.size) (by omega)).off O1 (by omega)
    replace hb0 := hb0.trans (O1.below (by omega))
    obtain ⟨x0, x1, x2, x3⟩ := id V0
    obtain ⟨x4, x5, x6, x7⟩ := id V1
    obtain ⟨r0, r1, r2, r3, r4, r5⟩ := id R0
    obtain ⟨VR, OR⟩ := R0.set (.bool F) (.slice c1 n1 d1) (.slice c2 n2 d2)
    replace K1 := K1.off OR (by omega)
    replace K2 := K2.off OR (by omega)
    replace hb0 := hb0.trans (OR.below (by omega))
    have hm1 : 0 ≤ m / (g : Int) := Int.ediv_nonneg hm0 (by omega)
    have E1 := agg_gi (f := F) K1 (Rat.divInt x y).num (by rw [HN.out]; exact HF.out.symm) (by rw [HN.out]; exact ws_abs hm1)
    have E2 : Got _ W0.heap.size (.slice c2 n2 d2) ((Rat.divInt x y).den : Int) S := K2.val HD.out.symm
    clear K1 K2 V0 V1 R0 O1 OR P1
    go_wp2
    refine bodyPost_ret (v := .agg #[.bool F, .slice c1 n1 d1, .slice c2 n2 d2]) (by simp [results, Tryz.results68, go_sem, VR.c0, VR.c1, VR.c2]) rfl ⟨_, _, _, _, _, _, _, rfl, ⟨E1.mono (by omega), E2.mono (by omega)⟩, DJ, hb0⟩
  · obtain ⟨V5, O5⟩ := VA.set (.bool q) (.slice cg ng dg)
    have hc2 := hc1.trans (O5.below (B := W0.heap.size) (by omega))
    have G2 := (G.off O5 (by simp <;> omega)).mono (B' := W0.heap.size) (by simp <;> omega)
    clear G hb1 hc1 VA y0 y1 y2 y3 O5
    generalize ((w1.setCell ⟨W0.heap.size + 1, 0, none⟩ (.bool q)).setCell ⟨W0.heap.size + 1, 1, none⟩ (.slice cg ng dg)) = w2 at *
    obtain ⟨R5, hR5e⟩ : ∃ R5, W0.heap.size + 1 = R5 := ⟨_, rfl⟩
    have hR5 : W0.heap.size ≤ R5 := by omega
    rw [hR5e] at V5 ⊢
    clear hR5e
    replace P0 := P0.below hc2
    replace P1 := P1.below hc2
    replace R0 := R0.below hc2
    replace ha := ha.below hc2
    replace hb := hb.below hc2
    replace hb0 := bel_tr hb0 hc2
    rw [HG.out] at G2
    have hs2 := Below.size hc2
    clear p00 p01 p02 p03 p10 p11 p12 p13 hc2
    obtain ⟨p00, p01, p02, p03⟩ := id P0
    obtain ⟨v50, v51, v52, v53⟩ := id V5
    have hsz := HSZ.out
    go_wp2_with fail
    refine (quoI p q _ ha G2.num (by omega) (by omega) (by omega)).mono ?_
    rintro e w3 ⟨c1, n1, d1, c1', n1', d1', rfl, K1, -, -, hx⟩
    replace K1 := K1.shrink LM
    obtain ⟨F, hF⟩ : ∃ F, decide (ws (p != q) (m / (g : Int)) < 0) = F := ⟨_, rfl⟩
    have HF : Hid (decide (ws (p != q) (m / (g : Int)) < 0) = F) := hF
    rw [hF]
    replace P0 := P0.below hx
    replace P1 := P1.below hx
    replace R0 := R0.below hx
    replace V5 := V5.below hx
    replace G2 := G2.below hx
    replace hb0 := bel_tr hb0 hx
    have hs3 := Below.size hx
    clear p00 p01 p02 p03 v50 v51 v52 v53 hx ha hb hF
    obtain ⟨p00, p01, p02, p03⟩ := id P0
    obtain ⟨V0, O0⟩ := P0.set (.bool F) (.slice c1 n1 d1)
    replace P1 := P1.off O0 (by omega)
    replace R0 := R0.off O0 (by omega)
    replace V5 := V5.off O0 (by omega)
    replace K1 := (K1.mono (B' := W0.heap.size) (by omega)).off O0 (by omega)
    replace G2 := G2.off O0 (by omega)
    replace hb0 := hb0.trans (O0.below (Nat.le_refl _))
    have hbk := hbw.below hb0
    have hs4 := O0.size
    clear P0 O0
    obtain ⟨p10, p11, p12, p13⟩ := id P1
    obtain ⟨v50, v51, v52, v53⟩ := id V5
    go_wp2_with fail
    generalize ((w3.setCell ⟨w.heap.size, 0, none⟩ (.bool F)).setCell ⟨w.heap.size, 1, none⟩ (.slice c1 n1 d1)) = w4 at *
    have KA := K1
    refine (quoI q q _ hbk G2.num (by omega) (by omega) (by omega)).mono ?_
    rintro e w5 ⟨c2, n2, d2, c2', n2', d2', rfl, K2, -, -, hx⟩
    have DJ := got_dj KA K2 (Nat.le_refl _)
    clear KA
    replace K2 := K2.shrink LK
    obtain ⟨F2, hF⟩ : ∃ F2, decide (ws (q != q) (k / (g : Int)) < 0) = F2 := ⟨_, rfl⟩
    rw [hF]
    replace V0 := V0.below hx
    replace P1 := P1.below hx
    replace R0 := R0.below hx
    replace K1 := K1.below hx
    replace hb0 := bel_tr hb0 hx
    have hs5 := Below.size hx
    clear p00 p01 p02 p03 p10 p11 p12 p13 v50 v51 v52 v53 hx hbk hF V5 G2
    obtain ⟨p10, p11, p12, p13⟩ := id P1
    obtain ⟨V1, O1⟩ := P1.set (.bool F2) (.slice c2 n2 d2)
    replace V0 := V0.off O1 (by omega)
    replace R0 := R0.off O1 (by omega)
    replace K1 := K1.off O1 (by omega)
    replace K2 := (K2.mono (B' := W0.heap.size) (by omega)).off O1 (by omega)
    replace hb0 := hb0.trans (O1.below (by omega))
    obtain ⟨x0, x1, x2, x3⟩ := id V0
    obtain ⟨x4, x5, x6, x7⟩ := id V1
    obtain ⟨r0, r1, r2, r3, r4, r5⟩ := id R0
    obtain ⟨VR, OR⟩ := R0.set (.bool F) (.slice c1 n1 d1) (.slice c2 n2 d2)
    replace K1 := K1.off OR (by omega)
    replace K2 := K2.off OR (by omega)
    replace hb0 := hb0.trans (OR.below (by omega))
    have hm1 : 0 ≤ m / (g : Int) := Int.ediv_nonneg hm0 (by omega)
    have E1 := agg_gi (f := F) K1 (Rat.divInt x y).num (by rw [HN.out]; exact HF.out.symm) (by rw [HN.out]; exact ws_abs hm1)
    have E2 : Got _ W0.heap.size (.slice c2 n2 d2) ((Rat.divInt x y).den : Int) S := K2.val HD.out.symm
    clear K1 K2 V0 V1 R0 O1 OR P1
    go_wp2
    refine bodyPost_ret (v := .agg #[.bool F, .slice c1 n1 d1, .slice c2 n2 d2]) (by simp [results, Tryz.results68, go_sem, VR.c0, VR.c1, VR.c2]) rfl ⟨_, _, _, _, _, _, _, rfl, ⟨E1.mono (by omega), E2.mono (by omega)⟩, DJ, hb0⟩
  · obtain ⟨V5, O5⟩ := VA.set (.bool q) (.slice cg ng dg)
    have hc2 := hc1.trans (O5.below (B := W0.heap.size) (by omega))
    have G2 := (G.off O5 (by simp <;> omega)).mono (B' := W0.heap.size) (by simp <;> omega)
    clear G hb1 hc1 VA y0 y1 y2 y3 O5
    generalize ((w1.setCell ⟨W0.heap.size, 0, none⟩ (.bool q)).setCell ⟨W0.heap.size, 1, none⟩ (.slice cg ng dg)) = w2 at *
    obtain ⟨R5, hR5e⟩ : ∃ R5, W0.heap.size = R5 := ⟨_, rfl⟩
    have hR5 : W0.heap.size ≤ R5 := by omega
    rw [hR5e] at V5 ⊢
    clear hR5e
    replace P0 := P0.below hc2
    replace P1 := P1.below hc2
    replace R0 := R0.below hc2
    replace ha := ha.below hc2
    replace hb := hb.below hc2
    replace hb0 := bel_tr hb0 hc2
    rw [HG.out] at G2
    have hs2 := Below.size hc2
    clear p00 p01 p02 p03 p10 p11 p12 p13 hc2
    obtain ⟨p00, p01, p02, p03⟩ := id P0
    obtain ⟨v50, v51, v52, v53⟩ := id V5
    have hsz := HSZ.out
    go_wp2_with fail
    refine (quoI p q _ ha G2.num (by omega) (by omega) (by omega)).mono ?_
    rintro e w3 ⟨c1, n1, d1, c1', n1', d1', rfl, K1, -, -, hx⟩
    replace K1 := K1.shrink LM
    obtain ⟨F, hF⟩ : ∃ F, decide (ws (p != q) (m / (g : Int)) < 0) = F := ⟨_, rfl⟩
    have HF : Hid (decide (ws (p != q) (m / (g : Int)) < 0) = F) := hF
    rw [hF]
    replace P0 := P0.below hx
    replace P1 := P1.below hx
    replace R0 := R0.below hx
    replace V5 := V5.below hx
    replace G2 := G2.below hx
    replace hb0 := bel_tr hb0 hx
    have hs3 := Below.size hx
    clear p00 p01 p02 p03 v50 v51 v52 v53 hx ha hb hF
    obtain ⟨p00, p01, p02, p03⟩ := id P0
    obtain ⟨V0, O0⟩ := P0.set (.bool F) (.slice c1 n1 d1)
    replace P1 := P1.off O0 (by omega)
    replace R0 := R0.off O0 (by omega)
    replace V5 := V5.off O0 (by omega)
    replace K1 := (K1.mono (B' := W0.heap.size) (by omega)).off O0 (by omega)
    replace G2 := G2.off O0 (by omega)
    replace hb0 := hb0.trans (O0.below (Nat.le_refl _))
    have hbk := hbw.below hb0
    have hs4 := O0.size
    clear P0 O0
    obtain ⟨p10, p11, p12, p13⟩ := id P1
    obtain ⟨v50, v51, v52, v53⟩ := id V5
    go_wp2_with fail
    generalize ((w3.setCell ⟨w.heap.size, 0, none⟩ (.bool F)).setCell ⟨w.heap.size, 1, none⟩ (.slice c1 n1 d1)) = w4 at *
    have KA := K1
    refine (quoI q q _ hbk G2.num (by omega) (by omega) (by omega)).mono ?_
    rintro e w5 ⟨c2, n2, d2, c2', n2', d2', rfl, K2, -, -, hx⟩
    have DJ := got_dj KA K2 (Nat.le_refl _)
    clear KA
    replace K2 := K2.shrink LK
    obtain ⟨F2, hF⟩ : ∃ F2, decide (ws (q != q) (k / (g : Int)) < 0) = F2 := ⟨_, rfl⟩
    rw [hF]
    replace V0 := V0.below hx
    replace P1 := P1.below hx
    replace R0 := R0.below hx
    replace K1 := K1.below hx
    replace hb0 := bel_tr hb0 hx
    have hs5 := Below.size hx
    clear p00 p01 p02 p03 p10 p11 p12 p13 v50 v51 v52 v53 hx hbk hF V5 G2
    obtain ⟨p10, p11, p12, p13⟩ := id P1
    obtain ⟨V1, O1⟩ := P1.set (.bool F2) (.slice c2 n2 d2)
    replace V0 := V0.off O1 (by omega)
    replace R0 := R0.off O1 (by omega)
    replace K1 := K1.off O1 (by omega)
    replace K2 := (K2.mono (B' := W0.heap.size) (by omega)).off O1 (by omega)
    replace hb0 := hb0.trans (O1.below (by omega))
    obtain ⟨x0, x1, x2, x3⟩ := id V0
    obtain ⟨x4, x5, x6, x7⟩ := id V1
    obtain ⟨r0, r1, r2, r3, r4, r5⟩ := id R0
    obtain ⟨VR, OR⟩ := R0.set (.bool F) (.slice c1 n1 d1) (.slice c2 n2 d2)
    replace K1 := K1.off OR (by omega)
    replace K2 := K2.off OR (by omega)
    replace hb0 := hb0.trans (OR.below (by omega))
    have hm1 : 0 ≤ m / (g : Int) := Int.ediv_nonneg hm0 (by omega)
    have E1 := agg_gi (f := F) K1 (Rat.divInt x y).num (by rw [HN.out]; exact HF.out.symm) (by rw [HN.out]; exact ws_abs hm1)
    have E2 : Got _ W0.heap.size (.slice c2 n2 d2) ((Rat.divInt x y).den : Int) S := K2.val HD.out.symm
    clear K1 K2 V0 V1 R0 O1 OR P1
    go_wp2
    refine bodyPost_ret (v := .agg #[.bool F, .slice c1 n1 d1, .slice c2 n2 d2]) (by simp [results, Tryz.results68, go_sem, VR.c0, VR.c1, VR.c2]) rfl ⟨_, _, _, _, _, _, _, rfl, ⟨E1.mono (by omega), E2.mono (by omega)⟩, DJ, hb0⟩
set_option maxHeartbeats 4000000 in
/-- rat.Make -/
theorem makeG {p q : Bool} {a b : Option Addr} {na nb ca cb : Nat} {x y : Int} {S : Nat} (w : World) (hx : TI w p a na ca x S) (hy : TI w q b nb cb y S) (hy0 : y ≠ 0) (hS : S ≤ 7000000) (hT : TB w) :
    Calls Tryz.prog 34 #[.agg #[.bool p, .slice a na ca], .agg #[.bool q, .slice b nb cb]] w fun e w' => ∃ f c n k c' n' k', e = .returned (.tuple #[.agg #[.bool f, .slice c n k, .slice c' n' k'], .nilIface]) ∧ GR w' w.heap.size f c n k c' n' k' (Rat.divInt x y) (S) ∧ (∀ g, (Value.slice c n k).ownBlock = some g → (Value.slice c' n' k').ownBlock ≠ some g) ∧ Below w.heap.size w w' := by
  obtain ⟨P0, P1, R0, hb0, hsz⟩ := box_iir w (.bool p) (.slice a na ca) (.bool q) (.slice b nb cb) (.bool false) (.slice none 0 0) (.slice none 0 0) 35 33
  replace hx := hx.below hb0
  replace hy := hy.below hb0
  replace hT := hT.below hb0
  go_enter Tryz.func34, Tryz.ntmps34
  obtain ⟨p10, p11, p12, p13⟩ := id P1
  go_wp2_with fail
  generalize ((w.alloc (.cells #[.bool p, .slice a na ca] 33)).alloc (.cells #[.bool q, .slice b nb cb] 33)).alloc (.cells #[.bool false, .slice none 0 0, .slice none 0 0] 35) = W0 at *
  refine (signT _ hy (by omega)).mono ?_
  rintro e w1 ⟨rfl, h1⟩
  replace P0 := P0.below h1
  replace P1 := P1.below h1
  replace R0 := R0.below h1
  replace hx := hx.below h1
  replace hy := hy.below h1
  replace hT := hT.below h1
  replace hb0 := bel_tr hb0 h1
  have hs1 := Below.size h1
  clear h1 p10 p11 p12 p13
  have hsy : y.sign ≠ 0 := fun h => hy0 (Int.sign_eq_zero_iff_zero.1 h)
  generalize y.sign = sy at *
  obtain ⟨p00, p01, p02, p03⟩ := id P0
  obtain ⟨p10, p11, p12, p13⟩ := id P1
  go_wp2_with fail
  refine (lowestG _ hx hy hy0 (by omega) hT).mono ?_
  rintro e w2 ⟨f1, c1, n1, k1, c2, n2, k2, rfl, GG, DJ, h2⟩
  replace R0 := R0.below h2
  replace hb0 := bel_tr hb0 h2
  have hs2 := Below.size h2
  clear h2 p00 p01 p02 p03 p10 p11 p12 p13 P0 P1 hx hy hT
  obtain ⟨r0, r1, r2, r3, r4, r5⟩ := id R0
  obtain ⟨V, O⟩ := R0.set (.bool f1) (.slice c1 n1 k1) (.slice c2 n2 k2)
  have GF := (GG.mono (B' := w.heap.size + 3) (by omega)).off O (by omega)
  have hw := hb0.trans (O.below (by omega))
  clear R0 O GG hb0
  go_wp2
  refine bodyPost_ret (v := .tuple #[.agg #[.bool f1, .slice c1 n1 k1, .slice c2 n2 k2], .nilIface]) (by simp [results, Tryz.results34, go_sem, V.c0, V.c1, V.c2]) rfl ⟨_, _, _, _, _, _, _, rfl, GF.mono (by omega), DJ, hw⟩
set_option maxRecDepth 100000 in
set_option maxHeartbeats 4000000 in
theorem exactGU {b : Nat} {m : Int} {q : Nat} {sg : Bool} (w : World) (hb : b < 18446744073709551616) (h : b % 9223372036854775808 < 9218868437227405312) (hm : ((b % 9223372036854775808 : Nat) : Int) - (steps (b % 9223372036854775808) : Int) * 4503599627370496 = m) (hm0 : 0 ≤ m) (hm1 : m < 18446744073709551616) (hst : (steps (b % 9223372036854775808) : Int) - 1074 = (q : Int)) (hn : q ≤ 2000) (hsg : (Ieee.double.order b 0 == some .lt) = sg) (hT : TB w) :
    Calls Tryz.prog 11 #[.float .f64 b] w fun e w' => ∃ f c n k c' n' k', e = .returned (.tuple #[.agg #[.bool f, .slice c n k, .slice c' n' k'], .nilIface]) ∧ GR w' w.heap.size f c n k c' n' k' (Rat.divInt (ws sg (m * 2 ^ q)) (ws false 1)) 1026 ∧ (∀ g, (Value.slice c n k).ownBlock = some g → (Value.slice c' n' k').ownBlock ≠ some g) ∧ Below w.heap.size w w' := by
  have HN := fun u => isNaNq (b := b) (t := false) (decide_eq_false (by omega)) u
  have HI := fun u => isInfq (b := b) (t := false) (decide_eq_false (by omega)) hb u
  have HR := fun u => rankOfF b u hb
  have HP := fun u => splitF (b % 9223372036854775808) u h
  rw [hm, hst] at HP
  have hsg' : (FloatKind.f64.format.order b 0 == some .lt) = sg := hsg
  clear h hb hm hst hsg
  generalize b % 9223372036854775808 = r at *
  have R0 := var3_new w (.bool false) (.slice none 0 0) (.slice none 0 0) 35
  have hb0 := bel_d0 w (.cells #[.bool false, .slice none 0 0, .slice none 0 0] 35)
  have hsz : w.heap.size + 1 ≤ (w.alloc (.cells #[.bool false, .slice none 0 0, .slice none 0 0] 35)).heap.size := by simp
  replace hT := hT.below hb0
  go_enter Tryz.func11, Tryz.ntmps11
  go_wp2_with fail
  generalize w.alloc (.cells #[.bool false, .slice none 0 0, .slice none 0 0] 35) = W0 at *
  refine (HN _).mono ?_
  rintro e w1 ⟨rfl, rfl⟩
  clear HN
  go_wp2_with fail
  refine (HI _).mono ?_
  rintro e w1 ⟨rfl, rfl⟩
  clear HI
  go_wp2_with fail
  refine (HR _).mono ?_
  rintro e w1 ⟨rfl, rfl⟩
  clear HR
  go_wp2_with fail
  refine (HP _).mono ?_
  rintro e w1 ⟨rfl, rfl⟩
  clear HP
  go_wp2_with fail
  refine (ofG m _ hm0 hm1).mono ?_
  rintro e w2 ⟨c1, n1, k1, rfl, G1, hx⟩
  replace R0 := R0.below hx
  replace hT := hT.below hx
  replace hb0 := bel_tr hb0 hx
  replace G1 := G1.mono (B' := w.heap.size + 1) hsz
  replace hsz := Nat.le_trans hsz (Below.size hx)
  clear hx
  go_wp2_with fail
  refine (ofG 1 _ (by decide) (by decide)).mono ?_
  rintro e w3 ⟨c2, n2, k2, rfl, G2, hx⟩
  replace G1 := G1.below hx
  replace R0 := R0.below hx
  replace hT := hT.below hx
  replace hb0 := bel_tr hb0 hx
  replace G2 := G2.mono (B' := w.heap.size + 1) hsz
  replace hsz := Nat.le_trans hsz (Below.size hx)
  clear hx
  go_wp2_with fail
  refine (scaleUz q _ (by first | rfl | omega) G1.num (by decide) (by omega)).mono ?_
  rintro e w4 ⟨c3, n3, k3, rfl, G3, hx⟩
  replace G1 := G1.below hx
  replace G2 := G2.below hx
  replace R0 := R0.below hx
  replace hT := hT.below hx
  replace hb0 := bel_tr hb0 hx
  replace G3 := G3.mono (B' := w.heap.size + 1) hsz
  replace hsz := Nat.le_trans hsz (Below.size hx)
  clear hx
  go_wp2_with fail
  refine (fromI _ _ G3.num (by decide)).mono ?_
  rintro e w5 ⟨v5, rfl, K5, hx⟩
  replace G1 := G1.below hx
  replace G2 := G2.below hx
  replace G3 := G3.below hx
  replace R0 := R0.below hx
  replace hT := hT.below hx
  replace hb0 := bel_tr hb0 hx
  replace K5 := K5.mono (B' := w.heap.size + 1) hsz
  replace hsz := Nat.le_trans hsz (Below.size hx)
  clear hx
  obtain ⟨f5, c5, n5, k5, rfl⟩ := K5.form
  go_wp2_with fail
  refine (fromI _ _ G2.num (by decide)).mono ?_
  rintro e w6 ⟨v6, rfl, K6, hx⟩
  replace G1 := G1.below hx
  replace G2 := G2.below hx
  replace G3 := G3.below hx
  replace K5 := K5.below hx
  replace R0 := R0.below hx
  replace hT := hT.below hx
  replace hb0 := bel_tr hb0 hx
  replace K6 := K6.mono (B' := w.heap.size + 1) hsz
  replace hsz := Nat.le_trans hsz (Below.size hx)
  clear hx
  obtain ⟨f6, c6, n6, k6, rfl⟩ := K6.form
  go_wp2_with fail
  refine (makeG _ (K5.le (S' := 1026) (by decide)).ti (K6.le (S' := 1026) (by decide)).ti (by decide) (by decide) hT).mono ?_
  rintro e w7 ⟨f7, c7, n7, k7, d7, m7, l7, rfl, G7, DJ, hx⟩
  replace R0 := R0.below hx
  replace hT := hT.below hx
  replace hb0 := bel_tr hb0 hx
  replace G7 := G7.mono (B' := w.heap.size + 1) hsz
  replace hsz := Nat.le_trans hsz (Below.size hx)
  clear hx
  clear hT G1 G2 G3 K5 K6
  obtain ⟨r0c0, r0c1, r0c2, r0c3, r0c4, r0c5⟩ := id R0
  obtain ⟨V, OO⟩ := R0.set (.bool f7) (.slice c7 n7 k7) (.slice d7 m7 l7)
  have hw := hb0.trans (OO.below (B := w.heap.size) (by omega))
  have GF := G7.off OO (by omega)
  clear G7 R0 OO hb0
  go_wp2
  refine bodyPost_ret (v := .tuple #[.agg #[.bool f7, .slice c7 n7 k7, .slice d7 m7 l7], .nilIface]) (by simp [results, Tryz.results11, go_sem, V.c0, V.c1, V.c2]) rfl ⟨_, _, _, _, _, _, _, rfl, GF.mono (B' := w.heap.size) (by omega), DJ, hw⟩
set_option maxRecDepth 100000 in
set_option maxHeartbeats 4000000 in
theorem exactGD {b : Nat} {m : Int} {q : Nat} {sg : Bool} (w : World) (hb : b < 18446744073709551616) (h : b % 9223372036854775808 < 9218868437227405312) (hm : ((b % 9223372036854775808 : Nat) : Int) - (steps (b % 9223372036854775808) : Int) * 4503599627370496 = m) (hm0 : 0 ≤ m) (hm1 : m < 18446744073709551616) (hst : (steps (b % 9223372036854775808) : Int) - 1074 = -(q : Int)) (hn : 1 ≤ q ∧ q ≤ 2000) (hsg : (Ieee.double.order b 0 == some .lt) = sg) (hT : TB w) :
    Calls Tryz.prog 11 #[.float .f64 b] w fun e w' => ∃ f c n k c' n' k', e = .returned (.tuple #[.agg #[.bool f, .slice c n k, .slice c' n' k'], .nilIface]) ∧ GR w' w.heap.size f c n k c' n' k' (Rat.divInt (ws sg m) (ws false (1 * 2 ^ q))) 1026 ∧ (∀ g, (Value.slice c n k).ownBlock = some g → (Value.slice c' n' k').ownBlock ≠ some g) ∧ Below w.heap.size w w' := by
  have HN := fun u => isNaNq (b := b) (t := false) (decide_eq_false (by omega)) u
  have HI := fun u => isInfq (b := b) (t := false) (decide_eq_false (by omega)) hb u
  have HR := fun u => rankOfF b u hb
  have HP := fun u => splitF (b % 9223372036854775808) u h
  rw [hm, hst] at HP
  have hsg' : (FloatKind.f64.format.order b 0 == some .lt) = sg := hsg
  clear h hb hm hst hsg
  generalize b % 9223372036854775808 = r at *
  have R0 := var3_new w (.bool false) (.slice none 0 0) (.slice none 0 0) 35
  have hb0 := bel_d0 w (.cells #[.bool false, .slice none 0 0, .slice none 0 0] 35)
  have hsz : w.heap.size + 1 ≤ (w.alloc (.cells #[.bool false, .slice none 0 0, .slice none 0 0] 35)).heap.size := by simp
  replace hT := hT.below hb0
  go_enter Tryz.func11, Tryz.ntmps11
  go_wp2_with fail
  generalize w.alloc (.cells #[.bool false, .slice none 0 0, .slice none 0 0] 35) = W0 at *
  refine (HN _).mono ?_
  rintro e w1 ⟨rfl, rfl⟩
  clear HN
  go_wp2_with fail
  refine (HI _).mono ?_
  rintro e w1 ⟨rfl, rfl⟩
  clear HI
  go_wp2_with fail
  refine (HR _).mono ?_
  rintro e w1 ⟨rfl, rfl⟩
  clear HR
  go_wp2_with fail
  refine (HP _).mono ?_
  rintro e w1 ⟨rfl, rfl⟩
  clear HP
  go_wp2_with fail
  refine (ofG m _ hm0 hm1).mono ?_
  rintro e w2 ⟨c1, n1, k1, rfl, G1, hx⟩
  replace R0 := R0.below hx
  replace hT := hT.below hx
  replace hb0 := bel_tr hb0 hx
  replace G1 := G1.mono (B' := w.heap.size + 1) hsz
  replace hsz := Nat.le_trans hsz (Below.size hx)
  clear hx
  go_wp2_with fail
  refine (ofG 1 _ (by decide) (by decide)).mono ?_
  rintro e w3 ⟨c2, n2, k2, rfl, G2, hx⟩
  replace G1 := G1.below hx
  replace R0 := R0.below hx
  replace hT := hT.below hx
  replace hb0 := bel_tr hb0 hx
  replace G2 := G2.mono (B' := w.heap.size + 1) hsz
  replace hsz := Nat.le_trans hsz (Below.size hx)
  clear hx
  go_wp2_with fail
  refine (scaleDz q _ (by first | rfl | omega) G2.num (by decide) hn.1 (by omega)).mono ?_
  rintro e w4 ⟨c3, n3, k3, rfl, G3, hx⟩
  replace G1 := G1.below hx
  replace G2 := G2.below hx
  replace R0 := R0.below hx
  replace hT := hT.below hx
  replace hb0 := bel_tr hb0 hx
  replace G3 := G3.mono (B' := w.heap.size + 1) hsz
  replace hsz := Nat.le_trans hsz (Below.size hx)
  clear hx
  go_wp2_with fail
  refine (fromI _ _ G1.num (by decide)).mono ?_
  rintro e w5 ⟨v5, rfl, K5, hx⟩
  replace G1 := G1.below hx
  replace G2 := G2.below hx
  replace G3 := G3.below hx
  replace R0 := R0.below hx
  replace hT := hT.below hx
  replace hb0 := bel_tr hb0 hx
  replace K5 := K5.mono (B' := w.heap.size + 1) hsz
  replace hsz := Nat.le_trans hsz (Below.size hx)
  clear hx
  obtain ⟨f5, c5, n5, k5, rfl⟩ := K5.form
  go_wp2_with fail
  refine (fromI _ _ G3.num (by decide)).mono ?_
  rintro e w6 ⟨v6, rfl, K6, hx⟩
  replace G1 := G1.below hx
  replace G2 := G2.below hx
  replace G3 := G3.below hx
  replace K5 := K5.below hx
  replace R0 := R0.below hx
  replace hT := hT.below hx
  replace hb0 := bel_tr hb0 hx
  replace K6 := K6.mono (B' := w.heap.size + 1) hsz
  replace hsz := Nat.le_trans hsz (Below.size hx)
  clear hx
  obtain ⟨f6, c6, n6, k6, rfl⟩ := K6.form
  go_wp2_with fail
  refine (makeG _ (K5.le (S' := 1026) (by decide)).ti (K6.le (S' := 1026) (by decide)).ti (by show (1 : Int) * 2 ^ q ≠ 0; rw [Int.one_mul]; exact Int.ne_of_gt (Int.pow_pos (by decide))) (by decide) hT).mono ?_
  rintro e w7 ⟨f7, c7, n7, k7, d7, m7, l7, rfl, G7, DJ, hx⟩
  replace R0 := R0.below hx
  replace hT := hT.below hx
  replace hb0 := bel_tr hb0 hx
  replace G7 := G7.mono (B' := w.heap.size + 1) hsz
  replace hsz := Nat.le_trans hsz (Below.size hx)
  clear hx
  clear hT G1 G2 G3 K5 K6
  obtain ⟨r0c0, r0c1, r0c2, r0c3, r0c4, r0c5⟩ := id R0
  obtain ⟨V, OO⟩ := R0.set (.bool f7) (.slice c7 n7 k7) (.slice d7 m7 l7)
  have hw := hb0.trans (OO.below (B := w.heap.size) (by omega))
  have GF := G7.off OO (by omega)
  clear G7 R0 OO hb0
  go_wp2
  refine bodyPost_ret (v := .tuple #[.agg #[.bool f7, .slice c7 n7 k7, .slice d7 m7 l7], .nilIface]) (by simp [results, Tryz.results11, go_sem, V.c0, V.c1, V.c2]) rfl ⟨_, _, _, _, _, _, _, rfl, GF.mono (B' := w.heap.size) (by omega), DJ, hw⟩
end Go.Proofs.YtbkkepbmaadomaaGreatDoor

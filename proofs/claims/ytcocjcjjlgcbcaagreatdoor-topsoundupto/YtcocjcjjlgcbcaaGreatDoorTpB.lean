import Derived.Test.YtcocjcjjlgcbcaaGreatDoorTpA
namespace Go.Proofs.YtcocjcjjlgcbcaaGreatDoor
open Go.RowKit
set_option maxRecDepth 100000 in
set_option maxHeartbeats 4000000 in
/-- Is a value better than another one? -/
theorem betterT (P : Prob) (t : Bool) {p q : Bool} {a b : Option Addr} {na nb ca cb : Nat} {d e0 : Option Addr} {nd ne cd ce : Nat} {r s : Rat} {S R : Nat} (w : World) (hr : TR w p a na ca d nd cd r S) (hs1 : TR w q b nb cb e0 ne ce s R) (hSR : S + R ≤ 6000000) (hS1 : 1 ≤ S) (hR1 : 1 ≤ R) (ht : t = true ↔ btr P r s) :
    Calls Tryz.prog 36 #[P.val, .agg #[.bool p, .slice a na ca, .slice d nd cd], .agg #[.bool q, .slice b nb cb, .slice e0 ne ce]] w fun e w' => e = .returned (.bool t) ∧ Below w.heap.size w w' := by
  unfold Prob.val
  unfold btr at ht
  cases hmx : P.mx
  · rw [hmx, if_neg (by decide)] at ht
    have HT : Hid (t = true ↔ r < s) := ht
    clear ht hmx
    obtain ⟨B0, B1, B2, hb, hs⟩ := boxc3 w #[.bool false, .string P.nm, .bool P.p, .slice P.a P.na P.ca, .slice P.d P.nd P.cd, .slice P.va P.vn P.vc, .slice P.ra P.rn P.rc] 31 #[.bool p, .slice a na ca, .slice d nd cd] 27 #[.bool q, .slice b nb cb, .slice e0 ne ce] 27
    have p0 := B0 0 _ rfl
    have a0 := B1 0 _ rfl
    have a1 := B1 1 _ rfl
    have a2 := B1 2 _ rfl
    have b0 := B2 0 _ rfl
    have b1 := B2 1 _ rfl
    have b2 := B2 2 _ rfl
    clear B0 B1 B2
    have hr' := hr.below hb
    have hs' := hs1.below hb
    go_enter Tryz.func36, Tryz.ntmps36
    go_wp2_with fail
    generalize ((w.alloc (.cells #[.bool false, .string P.nm, .bool P.p, .slice P.a P.na P.ca, .slice P.d P.nd P.cd, .slice P.va P.vn P.vc, .slice P.ra P.rn P.rc] 31)).alloc (.cells #[.bool p, .slice a na ca, .slice d nd cd] 27)).alloc (.cells #[.bool q, .slice b nb cb, .slice e0 ne ce] 27) = W0 at *
    obtain ⟨z, ez⟩ : ∃ z, z = cs r s := ⟨_, rfl⟩
    refine (cmpD z W0 hr' hs' hSR hS1 hR1 ez).mono ?_
    rintro e w1 ⟨rfl, h1⟩
    have hb1 := bel_tr hb h1
    have HT2 : Hid (t = decide (z < 0)) := by
      show t = decide (z < 0)
      rw [ez]
      have h2 : t = true ↔ cs r s < 0 := HT.out.trans cs_lt_iff.symm
      cases t
      · symm
        rw [decide_eq_false_iff_not]
        intro h3
        have := h2.2 h3
        cases this
      · symm
        rw [decide_eq_true_iff]
        exact h2.1 rfl
    clear h1 ez HT p0 a0 a1 a2 b0 b1 b2 hr' hs' hb
    go_wp2
    go_ret
    exact ⟨by rw [HT2.out]; try simp, hb1⟩
  · rw [hmx, if_pos rfl] at ht
    have HT : Hid (t = true ↔ s < r) := ht
    clear ht hmx
    obtain ⟨B0, B1, B2, hb, hs⟩ := boxc3 w #[.bool true, .string P.nm, .bool P.p, .slice P.a P.na P.ca, .slice P.d P.nd P.cd, .slice P.va P.vn P.vc, .slice P.ra P.rn P.rc] 31 #[.bool p, .slice a na ca, .slice d nd cd] 27 #[.bool q, .slice b nb cb, .slice e0 ne ce] 27
    have p0 := B0 0 _ rfl
    have a0 := B1 0 _ rfl
    have a1 := B1 1 _ rfl
    have a2 := B1 2 _ rfl
    have b0 := B2 0 _ rfl
    have b1 := B2 1 _ rfl
    have b2 := B2 2 _ rfl
    clear B0 B1 B2
    have hr' := hr.below hb
    have hs' := hs1.below hb
    go_enter Tryz.func36, Tryz.ntmps36
    go_wp2_with fail
    generalize ((w.alloc (.cells #[.bool true, .string P.nm, .bool P.p, .slice P.a P.na P.ca, .slice P.d P.nd P.cd, .slice P.va P.vn P.vc, .slice P.ra P.rn P.rc] 31)).alloc (.cells #[.bool p, .slice a na ca, .slice d nd cd] 27)).alloc (.cells #[.bool q, .slice b nb cb, .slice e0 ne ce] 27) = W0 at *
    obtain ⟨z, ez⟩ : ∃ z, z = cs r s := ⟨_, rfl⟩
    refine (cmpD z W0 hr' hs' hSR hS1 hR1 ez).mono ?_
    rintro e w1 ⟨rfl, h1⟩
    have hb1 := bel_tr hb h1
    have HT2 : Hid (t = decide (0 < z)) := by
      show t = decide (0 < z)
      rw [ez]
      have h2 : t = true ↔ 0 < cs r s := HT.out.trans cs_gt_iff.symm
      cases t
      · symm
        rw [decide_eq_false_iff_not]
        intro h3
        have := h2.2 h3
        cases this
      · symm
        rw [decide_eq_true_iff]
        exact h2.1 rfl
    clear h1 ez HT p0 a0 a1 a2 b0 b1 b2 hr' hs' hb
    go_wp2
    go_ret
    exact ⟨by rw [HT2.out]; try simp, hb1⟩
set_option maxHeartbeats 4000000 in
/-- Are two the same number? -/
theorem sameT {p q : Bool} {a b : Option Addr} {na nb ca cb : Nat} {d e0 : Option Addr} {nd ne cd ce : Nat} {r s : Rat} {S R : Nat} (w : World) (hr : TR w p a na ca d nd cd r S) (hs1 : TR w q b nb cb e0 ne ce s R) (hSR : S + R ≤ 6000000) (hS1 : 1 ≤ S) (hR1 : 1 ≤ R) (ht : (0 : Int) = cs r s) :
    Calls Tryz.prog 35 #[.agg #[.bool p, .slice a na ca, .slice d nd cd], .agg #[.bool q, .slice b nb cb, .slice e0 ne ce]] w fun e w' => e = .returned (.bool true) ∧ Below w.heap.size w w' := by
  obtain ⟨B0, B1, hb, hs⟩ := box_rr w (.bool p) (.slice a na ca) (.slice d nd cd) (.bool q) (.slice b nb cb) (.slice e0 ne ce) 27
  obtain ⟨a0, a1, a2, _, _, _⟩ := B0
  obtain ⟨b0, b1, b2, _, _, _⟩ := B1
  have hr' := hr.below hb
  have hs' := hs1.below hb
  have HT : Hid ((0 : Int) = cs r s) := ht
  clear ht
  go_enter Tryz.func35, Tryz.ntmps35
  go_wp2_with fail
  generalize (w.alloc (.cells #[.bool p, .slice a na ca, .slice d nd cd] 27)).alloc (.cells #[.bool q, .slice b nb cb, .slice e0 ne ce] 27) = W0 at *
  refine (cmpD 0 W0 hr' hs' hSR hS1 hR1 HT.out).mono ?_
  rintro e w1 ⟨rfl, h1⟩
  have hb1 := bel_tr hb h1
  clear h1 a0 a1 a2 b0 b1 b2 hr' hs' hb
  go_wp2
  go_ret
  exact ⟨rfl, hb1⟩
set_option maxRecDepth 100000 in
set_option maxHeartbeats 8000000 in
/-- By how much the objective grows along a direction. -/
theorem rateT (P : Prob) {za : Option Addr} {zn zc : Nat} {Z : Nat → Rat} {Zz : Nat → Nat} {Kz : Nat} (w : World) (hP : PQ w P) (hz : LQ w za zn Z Zz) (hzz : ∀ i, i < zn → 1 ≤ Zz i ∧ SzR (Z i) (Zz i)) (htz : tot Zz zn ≤ Kz) (hzn : zn = P.vn) (hK : P.K + Kz ≤ 1048576) :
    Calls Tryz.prog 69 #[P.val, .slice za zn zc] w fun e w' => ∃ f c n k c' n' k', e = .returned (.agg #[.bool f, .slice c n k, .slice c' n' k']) ∧ GR w' w.heap.size f c n k c' n' k' (rte P Z) 2097160 ∧ Below w.heap.size w w' := by
  have HV : ∀ w1, Below w.heap.size w w1 → Calls Tryz.prog 10 #[.agg #[.bool P.mx, .string P.nm, .bool false, .slice none 0 0, .slice none 0 0, .slice P.va P.vn P.vc, .slice P.ra P.rn P.rc], .slice za zn zc] w1 fun e w' => ∃ f c n1 k1 c' n' k', e = .returned (.agg #[.bool f, .slice c n1 k1, .slice c' n' k']) ∧ GR w' w1.heap.size f c n1 k1 c' n' k' (rte P Z) 2097160 ∧ Below w1.heap.size w1 w' := fun w1 hb => by
    refine (valD2 P.noK w1 (hP.noK.below hb) (hz.below hb) hzz htz hK).mono ?_
    rintro e w' ⟨f, c, n1, k1, d, m, l, h1, G, hb⟩
    exact ⟨f, c, n1, k1, d, m, l, h1, G.val ((vlu_xn P.noK Z (show P.vn ≤ zn by omega)).trans (noK_vlu P Z)), hb⟩
  clear hzz hz hP hzn htz
  unfold Prob.val
  obtain ⟨_, _, _, hb0, hs0⟩ := boxc3 w #[.bool P.mx, .string P.nm, .bool P.p, .slice P.a P.na P.ca, .slice P.d P.nd P.cd, .slice P.va P.vn P.vc, .slice P.ra P.rn P.rc] 31 #[.bool false, .slice none 0 0, .slice none 0 0] 27 #[.bool P.mx, .string P.nm, .bool false, .slice none 0 0, .slice none 0 0, .slice P.va P.vn P.vc, .slice P.ra P.rn P.rc] 31
  have Pb := box_new w #[.bool P.mx, .string P.nm, .bool P.p, .slice P.a P.na P.ca, .slice P.d P.nd P.cd, .slice P.va P.vn P.vc, .slice P.ra P.rn P.rc] 31
  have hza := bel_d0 w (.cells #[.bool P.mx, .string P.nm, .bool P.p, .slice P.a P.na P.ca, .slice P.d P.nd P.cd, .slice P.va P.vn P.vc, .slice P.ra P.rn P.rc] 31)
  have hs1 : (w.alloc (.cells #[.bool P.mx, .string P.nm, .bool P.p, .slice P.a P.na P.ca, .slice P.d P.nd P.cd, .slice P.va P.vn P.vc, .slice P.ra P.rn P.rc] 31)).heap.size = w.heap.size + 1 := by simp
  have V1 := var3_new (w.alloc (.cells #[.bool P.mx, .string P.nm, .bool P.p, .slice P.a P.na P.ca, .slice P.d P.nd P.cd, .slice P.va P.vn P.vc, .slice P.ra P.rn P.rc] 31)) (.bool false) (.slice none 0 0) (.slice none 0 0) 27
  have hz0 := bel_d0 (w.alloc (.cells #[.bool P.mx, .string P.nm, .bool P.p, .slice P.a P.na P.ca, .slice P.d P.nd P.cd, .slice P.va P.vn P.vc, .slice P.ra P.rn P.rc] 31)) (.cells #[.bool false, .slice none 0 0, .slice none 0 0] 27)
  have Pb1 := Pb.below hz0
  rw [hs1] at V1
  have V2 := V1.below (bel_d0 ((w.alloc (.cells #[.bool P.mx, .string P.nm, .bool P.p, .slice P.a P.na P.ca, .slice P.d P.nd P.cd, .slice P.va P.vn P.vc, .slice P.ra P.rn P.rc] 31)).alloc (.cells #[.bool false, .slice none 0 0, .slice none 0 0] 27)) (.cells #[.bool P.mx, .string P.nm, .bool false, .slice none 0 0, .slice none 0 0, .slice P.va P.vn P.vc, .slice P.ra P.rn P.rc] 31))
  have p0 := Pb1 0 _ rfl; have p1 := Pb1 1 _ rfl; have p2 := Pb1 2 _ rfl; have p3 := Pb1 3 _ rfl; have p4 := Pb1 4 _ rfl; have p5 := Pb1 5 _ rfl; have p6 := Pb1 6 _ rfl
  have Qb := box_new ((w.alloc (.cells #[.bool P.mx, .string P.nm, .bool P.p, .slice P.a P.na P.ca, .slice P.d P.nd P.cd, .slice P.va P.vn P.vc, .slice P.ra P.rn P.rc] 31)).alloc (.cells #[.bool false, .slice none 0 0, .slice none 0 0] 27)) #[.bool P.mx, .string P.nm, .bool false, .slice none 0 0, .slice none 0 0, .slice P.va P.vn P.vc, .slice P.ra P.rn P.rc] 31
  have g0 := Qb 0 _ rfl; have g1 := Qb 1 _ rfl; have g2 := Qb 2 _ rfl; have g3 := Qb 3 _ rfl; have g4 := Qb 4 _ rfl; have g5 := Qb 5 _ rfl; have g6 := Qb 6 _ rfl
  clear Pb Pb1 Qb hza hs1 V1 hz0
  go_enter Tryz.func69, Tryz.ntmps69
  go_wp2_with fail
  clear p0 p1 p2 p3 p4 p5 p6 g0 g1 g2 g3 g4 g5 g6
  generalize ((w.alloc (.cells #[.bool P.mx, .string P.nm, .bool P.p, .slice P.a P.na P.ca, .slice P.d P.nd P.cd, .slice P.va P.vn P.vc, .slice P.ra P.rn P.rc] 31)).alloc (.cells #[.bool false, .slice none 0 0, .slice none 0 0] 27)).alloc (.cells #[.bool P.mx, .string P.nm, .bool false, .slice none 0 0, .slice none 0 0, .slice P.va P.vn P.vc, .slice P.ra P.rn P.rc] 31) = W0 at *
  refine (HV W0 hb0).mono ?_
  rintro e w1 ⟨f, c, n, k, d, m, l, rfl, G, hx⟩
  have hs2 := hx.size
  replace V2 := V2.below hx
  replace hb0 := bel_tr hb0 hx
  obtain ⟨r0, r1, r2, r3, r4, r5⟩ := id V2
  obtain ⟨VV, O⟩ := V2.set (.bool f) (.slice c n k) (.slice d m l)
  have GF := G.off O (by omega)
  have hw := hb0.trans (O.below (by omega))
  clear V2 O G hb0 hx HV
  go_wp2
  refine bodyPost_ret (v := .agg #[.bool f, .slice c n k, .slice d m l]) (by simp [results, Tryz.results69, go_sem, VV.c0, VV.c1, VV.c2]) rfl ?_
  replace GF := GF.mono (B' := w.heap.size) (by omega)
  exact ⟨_, _, _, _, _, _, _, rfl, GF, hw⟩
set_option maxRecDepth 100000 in
set_option maxHeartbeats 16000000 in
/-- The point x + t z. -/
theorem alongT {xa : Option Addr} {n xc : Nat} {X : Nat → Rat} {Zx : Nat → Nat} {za : Option Addr} {zc : Nat} {Z : Nat → Rat} {Zz : Nat → Nat} {p : Bool} {a : Option Addr} {na ca : Nat} {d : Option Addr} {nd cd : Nat} {t : Rat} {Kx Kz Kt : Nat} (w : World) (hx : LQ w xa n X Zx) (hzx : ∀ i, i < n → 1 ≤ Zx i ∧ Zx i ≤ Kx) (hz : LQ w za n Z Zz) (hzz : ∀ i, i < n → 1 ≤ Zz i ∧ Zz i ≤ Kz) (ht : TR w p a na ca d nd cd t Kt) (hKt : 1 ≤ Kt) (hK : Kx + Kz + Kt ≤ 2300000) (hn : n ≤ 1048576) :
    Calls Tryz.prog 71 #[.slice xa n xc, .agg #[.bool p, .slice a na ca, .slice d nd cd], .slice za n zc] w fun e w' => ∃ b cap, e = .returned (.slice b n cap) ∧ LQ w' b n (fun j => X j + t * Z j) (fun _ => Kx + Kt + Kz + 1) ∧ Below w.heap.size w w' := by
  have HZX : Hid (∀ i, i < n → 1 ≤ Zx i ∧ Zx i ≤ Kx) := hzx
  have HZZ : Hid (∀ i, i < n → 1 ≤ Zz i ∧ Zz i ≤ Kz) := hzz
  have Tb := box_new w #[.bool p, .slice a na ca, .slice d nd cd] 27
  have hb0 := bel_d0 w (.cells #[.bool p, .slice a na ca, .slice d nd cd] 27)
  have hs0 : w.heap.size + 1 ≤ (w.alloc (.cells #[.bool p, .slice a na ca, .slice d nd cd] 27)).heap.size := by simp
  clear hzx hzz
  go_enter Tryz.func71, Tryz.ntmps71
  go_wp2
  generalize w.alloc (.cells #[.bool p, .slice a na ca, .slice d nd cd] 27) = W0 at *
  go_loopw [7, 8] (fun s7 s8 wr => ∃ (j : Nat), j ≤ n ∧ s8 = .int .i64 j ∧ MX wr (w.heap.size + 1) w.heap.size s7 j (fun j => X j + t * Z j) (Kx + Kt + Kz + 1) ∧ BoxC wr w.heap.size [.bool p, .slice a na ca, .slice d nd cd] ∧ Below w.heap.size w wr ∧ w.heap.size + 1 ≤ wr.heap.size) (fun _ s8 _ => n - (intOf s8).toNat)
  case atStart => exact ⟨0, Nat.zero_le _, rfl, ⟨by simp [Value.ownBlock], [], World.ownsRow_nil _ _ _ _, fun i hi => by omega⟩, Tb, hb0, hs0⟩
  case round =>
    clear Tb hb0 hs0
    obtain ⟨j, hj, rfl, L, Tb, hbel, hsr⟩ := hrel
    obtain ⟨o1, k1, rfl⟩ := L.form
    by_cases hlt : j < n
    · have hkI : (j : Int) < (n : Int) := by omega
      have hkI3 : (j : Int) * 3 = ((j * 3 : Nat) : Int) := by omega
      obtain ⟨zx1, zx2⟩ := HZX.out j hlt
      obtain ⟨zz1, zz2⟩ := HZZ.out j hlt
      rcases hx with h0 | ⟨xb, xo, rfl, helx⟩
      · omega
      rcases hz with h0 | ⟨zb, zo, rfl, helz⟩
      · omega
      obtain ⟨pX, aX, nX, cX, dX, mX, lX, x0, x1, x2, hX⟩ := helx j hlt
      obtain ⟨pZ, aZ, nZ, cZ, dZ, mZ, lZ, y0, y1, y2, hZ⟩ := helz j hlt
      have hxb := World.block_lt_of_cell? _ _ x0
      have hzb := World.block_lt_of_cell? _ _ y0
      have hxb' : xb < w.heap.size := hxb
      have hzb' : zb < w.heap.size := hzb
      replace x0 := kept_c hbel x0; replace x1 := kept_c hbel x1; replace x2 := kept_c hbel x2; replace y0 := kept_c hbel y0; replace y1 := kept_c hbel y1; replace y2 := kept_c hbel y2
      have hrow0 : ∀ g, (Value.slice o1 j k1).ownBlock = some g → w.heap.size + 1 ≤ g ∧ g < wr.heap.size := fun g hg => L.lt g hg
      have hzA := bel_d0 wr (.cells #[.bool false, .slice none 0 0, .slice none 0 0] 27)
      have hzD := bel_d0 wr (.cells #[.bool pZ, .slice aZ nZ cZ, .slice dZ mZ lZ] 27)
      have VD := var3_new wr (.bool pZ) (.slice aZ nZ cZ) (.slice dZ mZ lZ) 27
      have hsD : (wr.alloc (.cells #[.bool pZ, .slice aZ nZ cZ, .slice dZ mZ lZ] 27)).heap.size = wr.heap.size + 1 := by simp
      replace y0 := kept_c hzA y0; replace y1 := kept_c hzA y1; replace y2 := kept_c hzA y2
      clear helx helz hxb hzb hzA
      go_wp2_with fail
      replace L := L.below (by omega) hzD
      replace Tb := Tb.below hzD
      replace x0 := kept_c hzD x0; replace x1 := kept_c hzD x1; replace x2 := kept_c hzD x2
      clear y0 y1 y2
      replace hbel := bel_tr hbel hzD
      obtain ⟨R, hR⟩ : ∃ R, R = wr.heap.size := ⟨_, rfl⟩
      rw [← hR] at VD hrow0 ⊢
      have hsR : w.heap.size + 1 ≤ R := by omega
      rw [← hR] at hsD
      clear hR hzD
      generalize wr.alloc (.cells #[.bool pZ, .slice aZ nZ cZ, .slice dZ mZ lZ] 27) = wr at *
      have t0 := Tb 0 _ rfl
      have t1 := Tb 1 _ rfl
      have t2 := Tb 2 _ rfl
      obtain ⟨r0, r1, r2, _, _, _⟩ := VD
      have htr := ht.below hbel
      replace hX := hX.below hbel
      replace hZ := hZ.below hbel
      have hrow : ∀ g, (Value.slice o1 j k1).ownBlock = some g → w.heap.size + 1 ≤ g ∧ g < R := fun g hg => hrow0 g hg
      have HBX : ∀ w', Below wr.heap.size wr w' → (w'.cell? ⟨xb, xo + j * 3, none⟩ = some (.bool pX) ∧ w'.cell? ⟨xb, xo + j * 3 + 1, none⟩ = some (.slice aX nX cX) ∧ w'.cell? ⟨xb, xo + j * 3 + 2, none⟩ = some (.slice dX mX lX) ∧ w'.cell? ⟨w.heap.size, 0, none⟩ = some (.bool p) ∧ w'.cell? ⟨w.heap.size, 1, none⟩ = some (.slice a na ca) ∧ w'.cell? ⟨w.heap.size, 2, none⟩ = some (.slice d nd cd) ∧ w'.cell? ⟨R, 0, none⟩ = some (.bool pZ) ∧ w'.cell? ⟨R, 1, none⟩ = some (.slice aZ nZ cZ) ∧ w'.cell? ⟨R, 2, none⟩ = some (.slice dZ mZ lZ)) := fun w' h => ⟨kept_c h x0, kept_c h x1, kept_c h x2, kept_c h t0, kept_c h t1, kept_c h t2, kept_c h r0, kept_c h r1, kept_c h r2⟩
      refine wp_region_noPanic (wp_region_guard (Till 11 11 (fun w' => w'.cell? ⟨xb, xo + j * 3, none⟩ = some (.bool pX) ∧ w'.cell? ⟨xb, xo + j * 3 + 1, none⟩ = some (.slice aX nX cX) ∧ w'.cell? ⟨xb, xo + j * 3 + 2, none⟩ = some (.slice dX mX lX) ∧ w'.cell? ⟨w.heap.size, 0, none⟩ = some (.bool p) ∧ w'.cell? ⟨w.heap.size, 1, none⟩ = some (.slice a na ca) ∧ w'.cell? ⟨w.heap.size, 2, none⟩ = some (.slice d nd cd) ∧ w'.cell? ⟨R, 0, none⟩ = some (.bool pZ) ∧ w'.cell? ⟨R, 1, none⟩ = some (.slice aZ nZ cZ) ∧ w'.cell? ⟨R, 2, none⟩ = some (.slice dZ mZ lZ)) (fun _ => True)) (by as_aux_lemma => kernel_rfl) ?_)
      have hc0 : Below wr.heap.size wr wr.drew := bel_d1 _
      generalize wr.drew = z0 at *
      refine wpAnyG.take 0 (v := .slice o1 j k1) (by decide) (by as_aux_lemma => kernel_rfl) (fun _ _ _ h => h) 11 _ (by rfl) (till_ind (by decide) (by decide)) (fun L w' h1 h2 => h2.1 h1) (by as_aux_lemma => kernel_rfl) (by as_aux_lemma => kernel_rfl) (by as_aux_lemma => kernel_rfl) (by rfl) ?y0 ⟨fun _ => HBX _ hc0, fun _ => trivial⟩ (by rfl) ?_
      case y0 =>
        rintro w' ⟨q0, q1, q2, q3, q4, q5, q6, q7, q8⟩
        simp only [lgA, lgZ]
        go_simp
      simp only [lgA, lgZ, Act.put, lsA, lsZ, lsS]
      refine wpAnyG.take 1 (v := .slice (some ⟨xb, xo, none⟩) n xc) (by decide) (by as_aux_lemma => kernel_rfl) (fun _ _ _ h => h) 11 _ (by rfl) (till_ind (by decide) (by decide)) (fun L w' h1 h2 => h2.1 h1) (by as_aux_lemma => kernel_rfl) (by as_aux_lemma => kernel_rfl) (by as_aux_lemma => kernel_rfl) (by rfl) ?y1 ⟨fun _ => HBX _ hc0, fun _ => trivial⟩ (by rfl) ?_
      case y1 =>
        rintro w' ⟨q0, q1, q2, q3, q4, q5, q6, q7, q8⟩
        simp only [lgA, lgZ, lgS]
        go_simp
      simp only [lgA, lgZ, lgS, Act.put, lsA, lsZ, lsS]
      refine wpAnyG.take 2 (v := .int .i64 (j : Int)) (by decide) (by as_aux_lemma => kernel_rfl) (fun _ _ _ h => h) 11 _ (by rfl) (till_ind (by decide) (by decide)) (fun L w' h1 h2 => h2.1 h1) (by as_aux_lemma => kernel_rfl) (by as_aux_lemma => kernel_rfl) (by as_aux_lemma => kernel_rfl) (by rfl) ?y2 ⟨fun _ => HBX _ hc0, fun _ => trivial⟩ (by rfl) ?_
      case y2 =>
        rintro w' ⟨q0, q1, q2, q3, q4, q5, q6, q7, q8⟩
        simp only [lgA, lgZ, lgS]
        go_simp
      simp only [lgA, lgZ, lgS, Act.put, lsA, lsZ, lsS]
      refine wpAnyG.take 3 (v := .pointer (some ⟨xb, xo + j * 3, none⟩)) (by decide) (by as_aux_lemma => kernel_rfl) (fun _ _ _ h => h) 11 _ (by rfl) (till_ind (by decide) (by decide)) (fun L w' h1 h2 => h2.1 h1) (by as_aux_lemma => kernel_rfl) (by as_aux_lemma => kernel_rfl) (by as_aux_lemma => kernel_rfl) (by rfl) ?y3 ⟨fun _ => HBX _ hc0, fun _ => trivial⟩ (by rfl) ?_
      case y3 =>
        rintro w' ⟨q0, q1, q2, q3, q4, q5, q6, q7, q8⟩
        simp only [lgA, lgZ, lgS]
        go_simp
      simp only [lgA, lgZ, lgS, Act.put, lsA, lsZ, lsS]
      refine wpAnyG.take 4 (v := .agg #[.bool pX, .slice aX nX cX, .slice dX mX lX]) (by decide) (by as_aux_lemma => kernel_rfl) (fun _ _ _ h => h) 11 _ (by rfl) (till_ind (by decide) (by decide)) (fun L w' h1 h2 => h2.1 h1) (by as_aux_lemma => kernel_rfl) (by as_aux_lemma => kernel_rfl) (by as_aux_lemma => kernel_rfl) (by rfl) ?y4 ⟨fun _ => HBX _ hc0, fun _ => trivial⟩ (by rfl) ?_
      case y4 =>
        rintro w' ⟨q0, q1, q2, q3, q4, q5, q6, q7, q8⟩
        simp only [lgA, lgZ, lgS]
        go_simp
      simp only [lgA, lgZ, lgS, Act.put, lsA, lsZ, lsS]
      refine wpAnyG.take 5 (v := .agg #[.bool p, .slice a na ca, .slice d nd cd]) (by decide) (by as_aux_lemma => kernel_rfl) (fun _ _ _ h => h) 11 _ (by rfl) (till_ind (by decide) (by decide)) (fun L w' h1 h2 => h2.1 h1) (by as_aux_lemma => kernel_rfl) (by as_aux_lemma => kernel_rfl) (by as_aux_lemma => kernel_rfl) (by rfl) ?y5 ⟨fun _ => HBX _ hc0, fun _ => trivial⟩ (by rfl) ?_
      case y5 =>
        rintro w' ⟨q0, q1, q2, q3, q4, q5, q6, q7, q8⟩
        simp only [lgA, lgZ, lgS]
        go_simp
      simp only [lgA, lgZ, lgS, Act.put, lsA, lsZ, lsS]
      refine wpAnyG.take 6 (v := .agg #[.bool pZ, .slice aZ nZ cZ, .slice dZ mZ lZ]) (by decide) (by as_aux_lemma => kernel_rfl) (fun _ _ _ h => h) 11 _ (by rfl) (till_ind (by decide) (by decide)) (fun L w' h1 h2 => h2.1 h1) (by as_aux_lemma => kernel_rfl) (by as_aux_lemma => kernel_rfl) (by as_aux_lemma => kernel_rfl) (by rfl) ?y6 ⟨fun _ => HBX _ hc0, fun _ => trivial⟩ (by rfl) ?_
      case y6 =>
        rintro w' ⟨q0, q1, q2, q3, q4, q5, q6, q7, q8⟩
        simp only [lgA, lgZ, lgS]
        go_simp
      simp only [lgA, lgZ, lgS, Act.put, lsA, lsZ, lsS]
      refine wpAnyG.one 7 (by as_aux_lemma => kernel_rfl) (by decide) (by rfl) (fun K hK => ?_)
      simp only [lgA, lgZ, lgS]
      go_simp
      refine (mulD z0 (htr.below hc0) (hZ.below hc0) (by omega) (by omega) (by omega)).mono ?_
      rintro e z1 ⟨f1, c1, n1, i1, d1, m1, l1, rfl, G1, hk1⟩
      have hc1 : Below wr.heap.size wr z1 := bel_tr hc0 hk1
      dsimp only
      refine hK _ _ ⟨fun _ => HBX _ hc1, fun _ => trivial⟩ ?_
      clear hK K
      refine wpAnyG.one 8 (by as_aux_lemma => kernel_rfl) (by decide) (by rfl) (fun K hK => ?_)
      simp only [lgA, lgZ, lgS]
      go_simp
      refine (addD z1 (hX.below hc1) G1.tr (by omega) (by omega) (by omega)).mono ?_
      rintro e z2 ⟨f2, c2, n2, i2, d2, m2, l2, rfl, G2, hk2⟩
      have hc2 : Below wr.heap.size wr z2 := bel_tr hc1 hk2
      dsimp only
      refine hK _ _ ⟨fun _ => HBX _ hc2, fun _ => trivial⟩ ?_
      clear hK K
      refine wpAnyG.one 9 (by as_aux_lemma => kernel_rfl) (by decide) (by rfl) (fun K hK => ?_)
      simp only [lgA, lgZ, lgS]
      go_simp
      have hy : Below wr.heap.size wr (z2.alloc (.cells #[.bool f2, .slice c2 n2 i2, .slice d2 m2 l2] 27)) := bel_a hc2
      refine hK _ _ ⟨fun _ => HBX _ hy, fun _ => trivial⟩ ?_
      clear hK K
      refine wpAnyG.one 10 (by as_aux_lemma => kernel_rfl) (by decide) (by rfl) (fun K hK => ?_)
      simp only [lgA, lgZ, lgS]
      have hsz1 : (z2.alloc (.cells #[.bool f2, .slice c2 n2 i2, .slice d2 m2 l2] 27)).heap.size = z2.heap.size + 1 := by simp
      have hs2 := hc2.size
      have hs1 := hc1.size
      have GE : EX (z2.alloc (.cells #[.bool f2, .slice c2 n2 i2, .slice d2 m2 l2] 27)) (w.heap.size + 1) w.heap.size f2 c2 n2 i2 d2 m2 l2 (X j + t * Z j) (Kx + Kt + Kz + 1) := .inl (((((G2.below (bel_d0 _ _)).mono (B' := w.heap.size + 1) (by omega)).le (by omega)).gx (R := w.heap.size) (.inl (by omega))))
      refine wp_appendX _ _ _ rfl (w.heap.size + 1) w.heap.size (.slice o1 j k1) j (fun j => X j + t * Z j) (Kx + Kt + Kz + 1) rfl (L.below (by omega) hy) z2.heap.size _ rfl f2 c2 n2 i2 d2 m2 l2 _ (cell_new3 (by rfl)) GE (by omega) (by omega) (z2.heap.size + 1) (by simp) (by omega) ?_
      intro gN capN w5 SN hg hat hlt5
      refine hK _ _ ⟨fun _ => ⟨keep_ne hg (kept_c hy x0) (fun e => by have := hrow _ e; simp at this; try omega), keep_ne hg (kept_c hy x1) (fun e => by have := hrow _ e; simp at this; try omega), keep_ne hg (kept_c hy x2) (fun e => by have := hrow _ e; simp at this; try omega), keep_ne hg (kept_c hy t0) (fun e => by have := hrow _ e; simp at this; try omega), keep_ne hg (kept_c hy t1) (fun e => by have := hrow _ e; simp at this; try omega), keep_ne hg (kept_c hy t2) (fun e => by have := hrow _ e; simp at this; try omega), keep_ne hg (kept_c hy r0) (fun e => by have := hrow _ e; simp at this; try omega), keep_ne hg (kept_c hy r1) (fun e => by have := hrow _ e; simp at this; try omega), keep_ne hg (kept_c hy r2) (fun e => by have := hrow _ e; simp at this; try omega)⟩, fun _ => trivial⟩ ?_
      clear hK K
      refine wpAnyG.one 11 (by as_aux_lemma => kernel_rfl) (by decide) (by rfl) (fun K hK => ?_)
      simp only [lgA, lgZ, lgS]
      go_simp
      refine hK _ _ ⟨fun h => absurd h (by decide), fun _ => trivial⟩ ?_
      clear hK K
      refine wpAnyG.done (by as_aux_lemma => kernel_rfl) (NoPanic.normal ?_)
      have hbD := bel_tr hbel hy
      have hbN : Below w.heap.size w w5 := hbD.trans ((grown_below (B := w.heap.size + 1) hg (by omega) (fun k hk => (hrow k hk).1)).mono (by omega))
      have hs5 : w.heap.size + 1 ≤ w5.heap.size := by have := hg.size; omega
      have TbN : BoxC w5 w.heap.size [.bool p, .slice a na ca, .slice d nd cd] := fun i u hu => keep_ne hg (Tb.below hy i u hu) (fun e => by have := hrow _ e; simp at this; omega)
      have LN : MX w5 (w.heap.size + 1) w.heap.size (.slice (some ⟨gN, 0, none⟩) (j + 1) capN) (j + 1) (fun j => X j + t * Z j) (Kx + Kt + Kz + 1) := by
        obtain ⟨h1, vs, h2, h3⟩ := SN
        refine ⟨h1, vs, h2, fun i hi => ?_⟩
        have h4 := h3 i hi
        by_cases hij : i < j
        · simpa only [hij, if_true] using h4
        · obtain rfl : i = j := by omega
          simpa only [Nat.lt_irrefl, if_false] using h4
      clear HBX hg hat hlt5 SN GE G1 G2 hy hc0 hc1 hc2 hk1 hk2 x0 x1 x2 r0 r1 r2 t0 t1 t2 L Tb hbel hbD htr hX hZ hrow hrow0
      go_wp2
      go_roundw
      case rel => first | exact ⟨j + 1, by omega, by go_num, LN, TbN, hbN, hs5⟩ | ((repeat apply Exists.intro); refine ⟨?_, rfl⟩; exact ⟨j + 1, by omega, by go_num, LN, TbN, hbN, hs5⟩)
      case measure => simp [intOf]; omega
    · have hkI : ¬ (j : Int) < (n : Int) := by omega
      obtain rfl : j = n := by omega
      have hL := L.lq
      clear L Tb
      go_wp2
      go_ret
      exact ⟨_, ⟨_, rfl⟩, hL, hbel⟩
/-- The least x from 3 on. -/
def tpV (_ : Nat) : PV := { nm := ⟨#[]⟩, obj := ((1 : Int) : Rat), hlo := true, lo := ((3 : Int) : Rat), hhi := false, hi := 0, whole := false }
def tpP (va : Option Addr) : Prob :=
  { mx := false, nm := ⟨#[]⟩, p := false, a := none, na := 0, ca := 0, d := none, nd := 0, cd := 0, va := va, vn := 1, vc := 1, ra := none, rn := 0, rc := 0, k := 0, V := tpV, ZV := fun _ => 1, R := fun _ => { nm := ⟨#[]⟩, nt := 0, t := fun _ => { var := 0, coef := 0 }, hlo := false, lo := 0, hhi := false, hi := 0 }, ZR := fun _ => 1, S := 1, K := 13 }
def tpC (p : Bool) (a : Option Addr) (na ca : Nat) (d : Option Addr) (nd cd : Nat) (xa : Option Addr) : Crt :=
  { vd := 1, p := p, a := a, na := na, ca := ca, d := d, nd := nd, cd := cd, xa := xa, xn := 1, xc := 1, ya := none, yn := 0, yc := 0, za := none, zn := 0, zc := 0, v := ((3 : Int) : Rat), X := fun _ => ((3 : Int) : Rat), Y := fun _ => 0, Z := fun _ => 0, ZX := fun _ => 1, ZY := fun _ => 1, ZZ := fun _ => 1, S := 1, K := 10 }
theorem tpC_q {w : World} {p : Bool} {a : Option Addr} {na ca : Nat} {d : Option Addr} {nd cd : Nat} {xa : Option Addr} (h : TR w p a na ca d nd cd ((3 : Int) : Rat) 1) (hx : LQ w xa 1 (fun _ => ((3 : Int) : Rat)) (fun _ => 1)) : CQ w (tpC p a na ca d nd cd xa) :=
  ⟨h, Nat.le_refl _, szw 3 (by decide), hx, fun i _ => ⟨Nat.le_refl _, szw 3 (by decide)⟩, .inl rfl, fun i hi => absurd hi (Nat.not_lt_zero _), .inl rfl, fun i hi => absurd hi (Nat.not_lt_zero _), Nat.le_of_ble_eq_true rfl, Nat.le_refl _, Nat.le_refl _⟩
section
variable (va : Option Addr)
theorem tp_lft : lft (tpP va) (fun _ => 0) 0 = 1 := by
  show ((1 : Int) : Rat) - 0 = 1
  rw [q1]
  grind
theorem tp_ok : okS (tpP va) (fun _ => 0) := by
  unfold okS
  rw [if_neg (by show ¬ (false = true); decide)]
  refine ⟨fun i hi => absurd hi (Nat.not_lt_zero _), fun j hj => ?_⟩
  obtain rfl : j = 0 := by have : j < 1 := hj; omega
  refine ⟨fun _ => rfl, fun h => ?_⟩
  rw [tp_lft] at h
  exact absurd h (by decide)
theorem tp_pv : pvS (tpP va) (fun _ => 0) = ((3 : Int) : Rat) := by
  unfold pvS
  rw [if_neg (by show ¬ (false = true); decide)]
  show (0 : Rat) + 0 + (0 + pb (lft (tpP va) (fun _ => 0) 0) ((3 : Int) : Rat) 0) = _
  rw [tp_lft, q3]
  unfold pb
  rw [if_pos (by decide)]
  grind
theorem tp_holds : Hlds (tpP va) 1 (fun _ => ((3 : Int) : Rat)) := by
  refine ⟨rfl, fun j hj => ?_, fun i hi => absurd hi (Nat.not_lt_zero _)⟩
  rw [wthn_iff]
  exact ⟨fun _ => (show ((3 : Int) : Rat) ≤ ((3 : Int) : Rat) by decide), fun h => (by have h2 : false = true := h; cases h2)⟩
theorem tp_vlu : vlu (tpP va) (fun _ => ((3 : Int) : Rat)) = ((3 : Int) : Rat) := by
  show 0 + (0 : Rat) + ((1 : Int) : Rat) * ((3 : Int) : Rat) = _
  rw [q1, q3]
  grind
end
set_option maxRecDepth 100000 in
set_option maxHeartbeats 16000000 in
/-- vertextop.awake. -/
theorem awakeT (w : World) (hT : TB w) {eS eP eV eB eR eD : Value} (EH : EE w eS eP eV eB eR eD) : Calls Tryz.prog 16 #[] w fun e w' => e = .returned (.bool true) ∧ Below w.heap.size w w' := by
  go_enter Tryz.func16, Tryz.ntmps16
  go_wp2_with fail
  refine (ofD 1 w (by decide) (by decide)).mono ?_
  rintro e w1 ⟨f1, c1, n1, k1, d1, m1, l1, rfl, G1, hx⟩
  have hb0 := hx
  clear hx
  go_wp2_with fail
  refine (ofD 3 w1 (by decide) (by decide)).mono ?_
  rintro e w2 ⟨f2, c2, n2, k2, d2, m2, l2, rfl, G2, hx⟩
  replace hb0 := bel_tr hb0 hx
  replace G1 := G1.below hx
  clear hx
  have hx := bel_d0 w2 (.cells #[.string ⟨#[]⟩, .bool f1, .slice c1 n1 k1, .slice d1 m1 l1, .bool true, .bool f2, .slice c2 n2 k2, .slice d2 m2 l2, .bool false, .bool false, .slice none 0 0, .slice none 0 0, .bool false] 57)
  have BV := box_new w2 #[.string ⟨#[]⟩, .bool f1, .slice c1 n1 k1, .slice d1 m1 l1, .bool true, .bool f2, .slice c2 n2 k2, .slice d2 m2 l2, .bool false, .bool false, .slice none 0 0, .slice none 0 0, .bool false] 57
  have hsV : (w2.alloc (.cells #[.string ⟨#[]⟩, .bool f1, .slice c1 n1 k1, .slice d1 m1 l1, .bool true, .bool f2, .slice c2 n2 k2, .slice d2 m2 l2, .bool false, .bool false, .slice none 0 0, .slice none 0 0, .bool false] 57)).heap.size = w2.heap.size + 1 := by simp
  have hP : PQ (w2.alloc (.cells #[.string ⟨#[]⟩, .bool f1, .slice c1 n1 k1, .slice d1 m1 l1, .bool true, .bool f2, .slice c2 n2 k2, .slice d2 m2 l2, .bool false, .bool false, .slice none 0 0, .slice none 0 0, .bool false] 57)) (tpP (some ⟨w2.heap.size, 0, none⟩)) := by
    have g1 := (G1.below hx).tr
    have g2 := (G2.below hx).tr
    refine ⟨tr_o14 _, Nat.le_refl _, szr0 (Nat.le_refl _), .inr ⟨_, 0, rfl, fun j hj => ?_⟩, .inl rfl, Nat.le_of_ble_eq_true rfl, Nat.le_refl _, Nat.le_refl _⟩
    obtain rfl : j = 0 := by have : j < 1 := hj; omega
    exact ⟨BV 0 _ rfl, c3_of (BV 1 _ rfl) (BV 2 _ rfl) (BV 3 _ rfl) g1, BV 4 _ rfl, c3_of (BV 5 _ rfl) (BV 6 _ rfl) (BV 7 _ rfl) g2, BV 8 _ rfl, c3_of (BV 9 _ rfl) (BV 10 _ rfl) (BV 11 _ rfl) (tr_o14 _), BV 12 _ rfl, Nat.le_refl _, szw 1 (by decide), szw 3 (by decide), szw 0 (by decide), Nat.le_of_ble_eq_true rfl⟩
  replace hb0 := bel_tr hb0 hx
  clear hx G1 G2 BV
  have hx := bel_d0 (w2.alloc (.cells #[.string ⟨#[]⟩, .bool f1, .slice c1 n1 k1, .slice d1 m1 l1, .bool true, .bool f2, .slice c2 n2 k2, .slice d2 m2 l2, .bool false, .bool false, .slice none 0 0, .slice none 0 0, .bool false] 57)) (.cells #[.bool false, .string ⟨#[]⟩, .bool false, .slice none 0 0, .slice none 0 0, .slice (some ⟨w2.heap.size, 0, none⟩) 1 1, .slice none 0 0] 31)
  have Pb := box_new (w2.alloc (.cells #[.string ⟨#[]⟩, .bool f1, .slice c1 n1 k1, .slice d1 m1 l1, .bool true, .bool f2, .slice c2 n2 k2, .slice d2 m2 l2, .bool false, .bool false, .slice none 0 0, .slice none 0 0, .bool false] 57)) #[.bool false, .string ⟨#[]⟩, .bool false, .slice none 0 0, .slice none 0 0, .slice (some ⟨w2.heap.size, 0, none⟩) 1 1, .slice none 0 0] 31
  rw [hsV] at Pb
  replace hP := hP.below hx
  replace hb0 := bel_tr hb0 hx
  clear hx hsV
  go_wp2_with fail
  generalize (w2.alloc (.cells #[.string ⟨#[]⟩, .bool f1, .slice c1 n1 k1, .slice d1 m1 l1, .bool true, .bool f2, .slice c2 n2 k2, .slice d2 m2 l2, .bool false, .bool false, .slice none 0 0, .slice none 0 0, .bool false] 57)).alloc (.cells #[.bool false, .string ⟨#[]⟩, .bool false, .slice none 0 0, .slice none 0 0, .slice (some ⟨w2.heap.size, 0, none⟩) 1 1, .slice none 0 0] 31) = U at *
  have HBX : ∀ w', Below U.heap.size U w' → (w'.cell? ⟨w2.heap.size + 1, 0, none⟩ = some (.bool false) ∧ w'.cell? ⟨w2.heap.size + 1, 1, none⟩ = some (.string ⟨#[]⟩) ∧ w'.cell? ⟨w2.heap.size + 1, 2, none⟩ = some (.bool false) ∧ w'.cell? ⟨w2.heap.size + 1, 3, none⟩ = some (.slice none 0 0) ∧ w'.cell? ⟨w2.heap.size + 1, 4, none⟩ = some (.slice none 0 0) ∧ w'.cell? ⟨w2.heap.size + 1, 5, none⟩ = some (.slice (some ⟨w2.heap.size, 0, none⟩) 1 1) ∧ w'.cell? ⟨w2.heap.size + 1, 6, none⟩ = some (.slice none 0 0)) := fun w' h => ⟨(Pb.below h) 0 _ rfl, (Pb.below h) 1 _ rfl, (Pb.below h) 2 _ rfl, (Pb.below h) 3 _ rfl, (Pb.below h) 4 _ rfl, (Pb.below h) 5 _ rfl, (Pb.below h) 6 _ rfl⟩
  refine wp_region_noPanic (wp_region_guard (fun _ w' => w'.cell? ⟨w2.heap.size + 1, 0, none⟩ = some (.bool false) ∧ w'.cell? ⟨w2.heap.size + 1, 1, none⟩ = some (.string ⟨#[]⟩) ∧ w'.cell? ⟨w2.heap.size + 1, 2, none⟩ = some (.bool false) ∧ w'.cell? ⟨w2.heap.size + 1, 3, none⟩ = some (.slice none 0 0) ∧ w'.cell? ⟨w2.heap.size + 1, 4, none⟩ = some (.slice none 0 0) ∧ w'.cell? ⟨w2.heap.size + 1, 5, none⟩ = some (.slice (some ⟨w2.heap.size, 0, none⟩) 1 1) ∧ w'.cell? ⟨w2.heap.size + 1, 6, none⟩ = some (.slice none 0 0)) (by as_aux_lemma => kernel_rfl) ?_)
  have hc0 : Below U.heap.size U U.drew := bel_d1 _
  generalize U.drew = z0 at *
  refine wpAnyG.take 0 (v := .agg #[.bool false, .string ⟨#[]⟩, .bool false, .slice none 0 0, .slice none 0 0, .slice (some ⟨w2.heap.size, 0, none⟩) 1 1, .slice none 0 0]) (by decide) (by as_aux_lemma => kernel_rfl) (fun _ _ _ h => h) 6 _ (by rfl) (fun _ _ => Iff.rfl) (fun _ _ _ h => h) (by as_aux_lemma => kernel_rfl) (by as_aux_lemma => kernel_rfl) (by as_aux_lemma => kernel_rfl) (by rfl) ?y0 (HBX _ hc0) (by rfl) ?_
  case y0 =>
    rintro w' ⟨q0, q1, q2, q3, q4, q5, q6⟩
    simp only [lgA, lgZ]
    go_simp
  simp only [lgA, lgZ, Act.put, lsA, lsZ, lsS]
  refine wpAnyG.one 1 (by as_aux_lemma => kernel_rfl) (by decide) (by rfl) (fun K hK => ?_)
  simp only [lgA, lgZ, lgS]
  go_simp
  refine (ofD 3 z0 (by decide) (by decide)).mono ?_
  rintro e z1 ⟨f3, c3, n3, k3, d3, m3, l3, rfl, G3, hk1⟩
  have hc1 : Below U.heap.size U z1 := bel_tr hc0 hk1
  dsimp only
  refine hK _ _ (HBX _ hc1) ?_
  clear hK K
  refine wpAnyG.one 2 (by as_aux_lemma => kernel_rfl) (by decide) (by rfl) (fun K hK => ?_)
  simp only [lgA, lgZ, lgS]
  go_simp
  refine (ofD 3 z1 (by decide) (by decide)).mono ?_
  rintro e z2 ⟨f4, c4, n4, k4, d4, m4, l4, rfl, G4, hk2⟩
  have hc2 : Below U.heap.size U z2 := bel_tr hc1 hk2
  have G3b := G3.below hk2
  dsimp only
  refine hK _ _ (HBX _ hc2) ?_
  clear hK K
  refine wpAnyG.one 3 (by as_aux_lemma => kernel_rfl) (by decide) (by rfl) (fun K hK => ?_)
  simp only [lgA, lgZ, lgS]
  go_simp
  have hx := bel_d0 z2 (.cells #[.bool f4, .slice c4 n4 k4, .slice d4 m4 l4] 27)
  have LX := lq_one G4.tr
  have QC : CQ (z2.alloc (.cells #[.bool f4, .slice c4 n4 k4, .slice d4 m4 l4] 27)) (tpC f3 c3 n3 k3 d3 m3 l3 (some ⟨z2.heap.size, 0, none⟩)) := tpC_q (G3b.below hx).tr LX
  have hc3 := bel_tr hc2 hx
  refine hK _ _ (HBX _ hc3) ?_
  generalize z2.alloc (.cells #[.bool f4, .slice c4 n4 k4, .slice d4 m4 l4] 27) = z3 at *
  clear hx LX
  clear hK K
  refine wpAnyG.take 4 (v := .agg #[.int .i64 1, .bool f3, .slice c3 n3 k3, .slice d3 m3 l3, .slice (some ⟨z2.heap.size, 0, none⟩) 1 1, .slice none 0 0, .slice none 0 0]) (by decide) (by as_aux_lemma => kernel_rfl) (fun _ _ _ h => h) 6 _ (by rfl) (fun _ _ => Iff.rfl) (fun _ _ _ h => h) (by as_aux_lemma => kernel_rfl) (by as_aux_lemma => kernel_rfl) (by as_aux_lemma => kernel_rfl) (by rfl) ?y4 (HBX _ hc3) (by rfl) ?_
  case y4 =>
    rintro w' ⟨q0, q1, q2, q3, q4, q5, q6⟩
    simp only [lgA, lgZ, lgS]
    go_simp
  simp only [lgA, lgZ, lgS, Act.put, lsA, lsZ, lsS]
  refine wpAnyG.one 5 (by as_aux_lemma => kernel_rfl) (by decide) (by rfl) (fun K hK => ?_)
  simp only [lgA, lgZ, lgS]
  go_simp
  refine (chk1 (tpP (some ⟨w2.heap.size, 0, none⟩)) (tpC f3 c3 n3 k3 d3 m3 l3 (some ⟨z2.heap.size, 0, none⟩)) z3 rfl (hP.below hc3) QC (Nat.le_of_ble_eq_true rfl) (hT.below (bel_tr hb0 hc3)) (EH.below (bel_tr hb0 hc3))).mono ?_
  rintro e z4 ⟨hk4, hh⟩
  have hc4 := bel_tr hc3 hk4
  obtain rfl : e = .returned .nilIface := by
    rcases hh with ⟨hn, _⟩ | ⟨_, _, ⟨hn, _⟩ | ⟨_, ⟨hn, _⟩ | ⟨_, ⟨hn, _⟩ | ⟨_, _, h⟩⟩⟩⟩
    · exact absurd ⟨rfl, rfl⟩ hn
    · exact absurd (tp_holds _) hn
    · exact absurd (tp_vlu _) hn
    · exact absurd ⟨tp_ok _, tp_pv _⟩ hn
    · exact h
  dsimp only
  refine hK _ _ (HBX _ hc4) ?_
  clear hK K
  refine wpAnyG.one 6 (by as_aux_lemma => kernel_rfl) (by decide) (by rfl) (fun K hK => ?_)
  simp only [lgA, lgZ, lgS]
  go_simp
  refine hK _ _ (HBX _ hc4) ?_
  clear hK K
  refine wpAnyG.done (by as_aux_lemma => kernel_rfl) (NoPanic.normal ?_)
  have hw := bel_tr hb0 hc4
  clear HBX hc0 hc1 hc2 hc3 hc4 hk1 hk2 hk4 hh G3 G3b G4 QC Pb hP hb0
  go_wp2
  go_ret
  exact ⟨rfl, hw⟩
end Go.Proofs.YtcocjcjjlgcbcaaGreatDoor

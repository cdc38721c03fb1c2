import Derived.Test.YtogdpgfccbohnaaDoorTurn
import Derived.Test.YtogdpgfccbohnaaDoorRefE
namespace Go.Proofs.YtogdpgfccbohnaaDoor
open Go.RowKit
attribute [local go_sem ↓] Go.wp_at_zero Go.wp_at_succ

set_option maxRecDepth 100000 in
set_option maxHeartbeats 4000000 in
theorem adds_walk (a b : Option Addr) (na nb ca cb : Nat) (xs ys : List Int) (w : World) (hna : na = xs.length) (hnb : nb = ys.length) (hla : na ≤ ca) (hlb : nb ≤ cb) (hma : na ≤ 1048576) (hmb : nb ≤ 1048576) (hra : Reads w a xs) (hrb : Reads w b ys) (hx : AllW xs) (hy : AllW ys) :
    Calls Tryd.prog 5 #[.slice a na ca, .slice b nb cb] w fun e w' => e = .returned (.bool true) ∧ Below w.heap.size w w' := by
  have HT : Below w.heap.size w w := Below.refl _ _
  obtain ⟨lx, hlx⟩ : ∃ lx, (lendL xs).length = lx := ⟨_, rfl⟩
  obtain ⟨ly, hly⟩ : ∃ ly, (lendL ys).length = ly := ⟨_, rfl⟩
  have HLX0 : Hid ((lendL xs).length = lx) := hlx
  have HLY : Hid ((lendL ys).length = ly) := hly
  clear hlx hly
  have Hna : Hid (na = xs.length) := hna
  have Hnb : Hid (nb = ys.length) := hnb
  clear hna hnb
  go_enter Tryd.func5, Tryd.ntmps5
  go_wp2_with fail
  refine (awake_any _).mono ?_
  rintro e w1 ⟨rfl, hb⟩
  replace hra := hra.below hb
  replace hrb := hrb.below hb
  have hs1 := hb.size
  replace HT := bel_tr HT hb
  clear hb
  go_wp2_with fail
  refine (lent_any a b na nb ca cb xs ys _ Hna.out Hnb.out hla hlb (by omega) (by omega) hra hrb).mono ?_
  rintro e w2 ⟨T, x, y, rfl, H, ex, ey, hb⟩
  replace hra := hra.below hb
  replace hrb := hrb.below hb
  have hs2 := hb.size
  replace HT := bel_tr HT hb
  clear hb
  have HT2 : T + 1 ≤ w2.heap.size := H.lt
  have HTw : w1.heap.size < T := H.lo.1
  have O := Outs.nil w2 T
  have Ex : Hid (x.n = xs.length) := by show _ = _; rw [ex]; exact Hna.out
  have Ey : Hid (y.n = ys.length) := by show _ = _; rw [ey]; exact Hnb.out
  have hxl : xs.length ≤ 1048576 := by have := Hna.out; omega
  have hyl : ys.length ≤ 1048576 := by have := Hnb.out; omega
  clear ex ey hra hrb
  have hB0 : w.heap.size ≤ w1.heap.size := by omega
  generalize w1.heap.size = B0 at *
  go_wp2
  go_loopw [7] (fun s wr => ∃ (k : Nat) (xs' : List Int) (lv : Value) (l : List (Value × List Int)), k ≤ 3 ∧ s = .int .i64 k ∧ Two wr B0 T x y xs' ys lv ∧ Outs wr T lv l ∧ l.length = 2 * k ∧ xs'.length = xs.length ∧ AllW xs' ∧ Below w.heap.size w wr ∧ w2.heap.size ≤ wr.heap.size) (fun s _ => 3 - (intOf s).toNat)
  case atStart => exact ⟨0, xs, _, [], by omega, rfl, H, O, rfl, rfl, hx, HT, Nat.le_refl _⟩
  case round =>
    obtain ⟨k, xs', lv, l, hk, rfl, H, O, hl, hxl', hx', HT, hsw⟩ := hrel
    have HL : Hid (l.length = 2 * k) := hl
    have HXL : Hid (xs'.length = xs.length) := hxl'
    have HXA : Hid (AllW xs') := hx'
    have HLX : Hid ((lendL xs').length = lx) := by show _ = _; rw [length_lendL, hxl', ← length_lendL]; exact HLX0.out
    clear hl hxl' hx'
    by_cases hlt : k < 3
    · have hkl : (k : Int) < 3 := by omega
      have HX := LB.num H.lx (by rw [HXL.out]; exact Ex.out) HXA.out (S := 1048576) (by rw [HXL.out]; exact hxl)
      have HY := LB.num H.ly Ey.out hy hyl
      have Q0 : Hid (∀ p ∈ l, ∀ g, p.1.ownBlock = some g → g < wr.heap.size) := fun p hp g hg => ((O.ov p hp).lt g hg).2
      have k0 := H.c0
      have k1 := H.c1
      have kx0 := H.lx.c0
      have kx2 := H.lx.c2
      have ky0 := H.ly.c0
      have ky2 := H.ly.c2
      have hnx : x.n ≤ x.cf := by have := H.lx.le; have := H.lx.rf.le; omega
      have hny : y.n ≤ y.cf := by have := H.ly.le; have := H.ly.rf.le; omega
      rw [HLX.out] at kx0
      rw [HLY.out] at ky0
      go_wp2_with fail
      go_region_held3 (fun w' => w'.cell? ⟨T, 0, none⟩ = some (.pointer (some ⟨x.r, 0, none⟩)) ∧ w'.cell? ⟨T, 1, none⟩ = some (.pointer (some ⟨y.r, 0, none⟩)) ∧ w'.cell? ⟨x.r, 0, none⟩ = some (.slice (some ⟨x.gf, 0, none⟩) lx x.cf) ∧ w'.cell? ⟨x.r, 2, none⟩ = some (.int .i64 x.n) ∧ w'.cell? ⟨y.r, 0, none⟩ = some (.slice (some ⟨y.gf, 0, none⟩) ly y.cf) ∧ w'.cell? ⟨y.r, 2, none⟩ = some (.int .i64 y.n))
          (first | (go_keep; done) | (refine ⟨?_, ?_, ?_, ?_, ?_, ?_⟩ <;> first | exact keep_bel hbr (by go_keep)))
          ((first
            | (go_at_call 13; go_fit (lnat_c x.r x.gf x.cf x.n lx _ (by simp [*]) (by simp [*]) hnx); rintro e w' ⟨rfl, mA, rfl⟩)
            | (go_at_call 13; go_fit (lnat_c y.r y.gf y.cf y.n ly _ (by simp [*]) (by simp [*]) hny); rintro e w' ⟨rfl, mB, rfl⟩)
            | (go_at_call 26; go_fit (addG _ (HX.drewN _) (HY.drewN _) (by omega) (by omega)); rintro e w41 ⟨c1, n1, d1, rfl, G1, hbr⟩)))
      have hb := bel_tr (belN (Below.refl _ wr) _) hbr
      clear k0 k1 kx0 kx2 ky0 ky2 hnx hny hbr
      replace H := H.below hb
      replace O := O.below hb
      replace HX := HX.below hb
      replace HY := HY.below hb
      have hs41 := hb.size
      replace HT := bel_tr HT hb
      clear hb
      replace G1 := G1.mono (B' := wr.heap.size) (Nat.le_refl _)
      have Q1 : Hid (∀ g, (Value.slice c1 n1 d1).ownBlock = some g → wr.heap.size ≤ g ∧ g < w41.heap.size) := fun g hg => by have := G1.lt g hg; exact this
      have k0 := H.c0
      have k1 := H.c1
      have kx0 := H.lx.c0
      have kx2 := H.lx.c2
      have ky0 := H.ly.c0
      have ky2 := H.ly.c2
      have hnx : x.n ≤ x.cf := by have := H.lx.le; have := H.lx.rf.le; omega
      have hny : y.n ≤ y.cf := by have := H.ly.le; have := H.ly.rf.le; omega
      rw [HLX.out] at kx0
      rw [HLY.out] at ky0
      go_wp2_with fail
      go_region_held3 (fun w' => w'.cell? ⟨T, 0, none⟩ = some (.pointer (some ⟨x.r, 0, none⟩)) ∧ w'.cell? ⟨T, 1, none⟩ = some (.pointer (some ⟨y.r, 0, none⟩)) ∧ w'.cell? ⟨x.r, 0, none⟩ = some (.slice (some ⟨x.gf, 0, none⟩) lx x.cf) ∧ w'.cell? ⟨x.r, 2, none⟩ = some (.int .i64 x.n) ∧ w'.cell? ⟨y.r, 0, none⟩ = some (.slice (some ⟨y.gf, 0, none⟩) ly y.cf) ∧ w'.cell? ⟨y.r, 2, none⟩ = some (.int .i64 y.n))
          (first | (go_keep; done) | (refine ⟨?_, ?_, ?_, ?_, ?_, ?_⟩ <;> first | exact keep_bel hbr (by go_keep)))
          ((first
            | (go_at_call 13; go_fit (lnat_c x.r x.gf x.cf x.n lx _ (by simp [*]) (by simp [*]) hnx); rintro e w' ⟨rfl, mA, rfl⟩)
            | (go_at_call 13; go_fit (lnat_c y.r y.gf y.cf y.n ly _ (by simp [*]) (by simp [*]) hny); rintro e w' ⟨rfl, mB, rfl⟩)
            | (go_at_call 27; go_fit (mulG _ (HX.drewN _) (HY.drewN _) (by omega) (by omega)); rintro e w42 ⟨c2, n2, d2, rfl, G2, hbr⟩)))
      have hb := bel_tr (belN (Below.refl _ w41) _) hbr
      clear k0 k1 kx0 kx2 ky0 ky2 hnx hny hbr
      replace H := H.below hb
      replace O := O.below hb
      replace HX := HX.below hb
      replace HY := HY.below hb
      replace G1 := G1.below hb
      have hs42 := hb.size
      replace HT := bel_tr HT hb
      clear hb
      replace G2 := G2.mono (B' := w41.heap.size) (Nat.le_refl _)
      have Q2 : Hid (∀ g, (Value.slice c2 n2 d2).ownBlock = some g → w41.heap.size ≤ g ∧ g < w42.heap.size) := fun g hg => by have := G2.lt g hg; exact this
      have k0 := H.c0
      have k1 := H.c1
      have kx0 := H.lx.c0
      have kx2 := H.lx.c2
      have ky0 := H.ly.c0
      have ky2 := H.ly.c2
      have hnx : x.n ≤ x.cf := by have := H.lx.le; have := H.lx.rf.le; omega
      have hny : y.n ≤ y.cf := by have := H.ly.le; have := H.ly.rf.le; omega
      rw [HLX.out] at kx0
      rw [HLY.out] at ky0
      go_wp2_with fail
      go_region_held3 (fun w' => w'.cell? ⟨T, 0, none⟩ = some (.pointer (some ⟨x.r, 0, none⟩)) ∧ w'.cell? ⟨T, 1, none⟩ = some (.pointer (some ⟨y.r, 0, none⟩)) ∧ w'.cell? ⟨x.r, 0, none⟩ = some (.slice (some ⟨x.gf, 0, none⟩) lx x.cf) ∧ w'.cell? ⟨x.r, 2, none⟩ = some (.int .i64 x.n) ∧ w'.cell? ⟨y.r, 0, none⟩ = some (.slice (some ⟨y.gf, 0, none⟩) ly y.cf) ∧ w'.cell? ⟨y.r, 2, none⟩ = some (.int .i64 y.n))
          (first | (go_keep; done) | (refine ⟨?_, ?_, ?_, ?_, ?_, ?_⟩ <;> first | exact keep_bel hbs (by go_keep) | exact keep_bel hbr (by go_keep)))
          ((first
            | (go_at_call 13; go_fit (lnat_c x.r x.gf x.cf x.n lx _ (by simp [*]) (by simp [*]) hnx); rintro e w' ⟨rfl, mA, rfl⟩)
            | (go_at_call 13; go_fit (lnat_c y.r y.gf y.cf y.n ly _ (by simp [*]) (by simp [*]) hny); rintro e w' ⟨rfl, mB, rfl⟩)
            | (go_at_call 28; go_fit (raddV _ (HX.drewN _) (HY.drewN _) (by omega)); rintro e wq0 ⟨r1, m1, t1, rfl, R1, hbr⟩)
            | (go_at_call 19; go_fit (sameG _ (G1.below (bel_tr (belN (Below.refl _ _) _) hbr)) R1 rfl (by omega)); rintro e w43 ⟨rfl, hbs⟩)))
      have hb := bel_tr (bel_tr (belN (Below.refl _ w42) _) hbr) hbs
      clear k0 k1 kx0 kx2 ky0 ky2 hnx hny hbr hbs
      replace H := H.below hb
      replace O := O.below hb
      replace HX := HX.below hb
      replace HY := HY.below hb
      replace G1 := G1.below hb
      replace G2 := G2.below hb
      have hs43 := hb.size
      replace HT := bel_tr HT hb
      clear hb
      clear R1
      have k0 := H.c0
      have k1 := H.c1
      have kx0 := H.lx.c0
      have kx2 := H.lx.c2
      have ky0 := H.ly.c0
      have ky2 := H.ly.c2
      have hnx : x.n ≤ x.cf := by have := H.lx.le; have := H.lx.rf.le; omega
      have hny : y.n ≤ y.cf := by have := H.ly.le; have := H.ly.rf.le; omega
      rw [HLX.out] at kx0
      rw [HLY.out] at ky0
      go_wp2_with fail
      go_region_held3 (fun w' => w'.cell? ⟨T, 0, none⟩ = some (.pointer (some ⟨x.r, 0, none⟩)) ∧ w'.cell? ⟨T, 1, none⟩ = some (.pointer (some ⟨y.r, 0, none⟩)) ∧ w'.cell? ⟨x.r, 0, none⟩ = some (.slice (some ⟨x.gf, 0, none⟩) lx x.cf) ∧ w'.cell? ⟨x.r, 2, none⟩ = some (.int .i64 x.n) ∧ w'.cell? ⟨y.r, 0, none⟩ = some (.slice (some ⟨y.gf, 0, none⟩) ly y.cf) ∧ w'.cell? ⟨y.r, 2, none⟩ = some (.int .i64 y.n))
          (first | (go_keep; done) | (refine ⟨?_, ?_, ?_, ?_, ?_, ?_⟩ <;> first | exact keep_bel hbs (by go_keep) | exact keep_bel hbr (by go_keep)))
          ((first
            | (go_at_call 13; go_fit (lnat_c x.r x.gf x.cf x.n lx _ (by simp [*]) (by simp [*]) hnx); rintro e w' ⟨rfl, mA, rfl⟩)
            | (go_at_call 13; go_fit (lnat_c y.r y.gf y.cf y.n ly _ (by simp [*]) (by simp [*]) hny); rintro e w' ⟨rfl, mB, rfl⟩)
            | (go_at_call 29; go_fit (rmulV _ (HX.drewN _) (HY.drewN _) (by omega)); rintro e wq0 ⟨r2, m2, t2, rfl, R2, hbr⟩)
            | (go_at_call 19; go_fit (sameG _ (G2.below (bel_tr (belN (Below.refl _ _) _) hbr)) R2 rfl (by omega)); rintro e w44 ⟨rfl, hbs⟩)))
      have hb := bel_tr (bel_tr (belN (Below.refl _ w43) _) hbr) hbs
      clear k0 k1 kx0 kx2 ky0 ky2 hnx hny hbr hbs
      replace H := H.below hb
      replace O := O.below hb
      replace HX := HX.below hb
      replace HY := HY.below hb
      replace G1 := G1.below hb
      replace G2 := G2.below hb
      have hs44 := hb.size
      replace HT := bel_tr HT hb
      clear hb
      clear R2
      have k0 := H.c0
      go_wp2_with fail
      refine (keptG _ x xs' H.lx (by rw [HXL.out]; omega)).mono ?_
      rintro e w45 ⟨rfl, hb⟩
      replace H := H.below hb
      replace O := O.below hb
      replace HX := HX.below hb
      replace HY := HY.below hb
      replace G1 := G1.below hb
      replace G2 := G2.below hb
      have hs45 := hb.size
      replace HT := bel_tr HT hb
      clear hb
      clear k0
      have k1 := H.c1
      go_wp2_with fail
      refine (keptG _ y ys H.ly (by omega)).mono ?_
      rintro e w46 ⟨rfl, hb⟩
      replace H := H.below hb
      replace O := O.below hb
      replace HX := HX.below hb
      replace HY := HY.below hb
      replace G1 := G1.below hb
      replace G2 := G2.below hb
      have hs46 := hb.size
      replace HT := bel_tr HT hb
      clear hb
      clear k1
      clear HX HY
      obtain ⟨us1, o1, _, _, z1⟩ := G1
      obtain ⟨us2, o2, _, _, z2⟩ := G2
      replace o1 := o1.mono (B' := T + 1) (by omega)
      replace o2 := o2.mono (B' := T + 1) (by omega)
      have k2 := H.c2
      have kz := H.fz
      have kT := H.lt
      have HTL := O.tl
      have HLV : Hid ((l.map (·.1)).length = 2 * k) := by show _ = _; rw [List.length_map]; exact HL.out
      go_wp2_with (at_builtin; refine wpList_appendT2 _ rfl _ _ rfl (T + 1) lv (l.map (·.1)) (2 * k) HLV rfl (HTL.alloc _) w46.heap.size _ (.slice c1 n1 d1) (.slice c2 n2 d2) rfl (cell_two rfl).1 (cell_two rfl).2 rfl rfl (by omega) (by simp; omega) (w46.heap.size + 1) (by simp) ?_)
      intro g cap1 wa hown hgrow _ _
      obtain ⟨H', O', hb, kc, kz'⟩ := outs_add2 H O o1 o2 (fun p hp g hg e => by have a0 := Q0.out p hp g hg; have a1 := (Q1.out g e).1; omega) (fun p hp g hg e => by have a0 := Q0.out p hp g hg; have a1 := (Q2.out g e).1; omega) (fun g hg e => by have a1 := Q1.out g hg; have a2 := Q2.out g e; omega) (by omega) (by omega) hown hgrow
      replace HT : Below w.heap.size w _ := HT.trans (hb.mono (by omega))
      have hszb := hb.size
      have HL2 : Hid ((l ++ [(Value.slice c1 n1 d1, us1), (.slice c2 n2 d2, us2)]).length = 2 * (k + 1)) := by show _ = _; rw [List.length_append, HL.out]; simp; omega
      clear H O hown hgrow o1 o2 hb Q0 Q1 Q2 HTL k2 kz HLV
      by_cases hk1 : k = 1
      · subst hk1
        have k0 := H'.c0
        have HH' : Hid (Two (wa.setCell ⟨T, 2, none⟩ (.slice (some ⟨g, 0, none⟩) (2 * 1 + 2) cap1)) B0 T x y xs' ys (.slice (some ⟨g, 0, none⟩) (2 * 1 + 2) cap1)) := H'
        have TU := turn_any _ x xs' H'.lx (by rw [HXL.out]; exact Ex.out) HXA.out (by rw [HXL.out]; omega)
        have g1 : w.heap.size ≤ x.gf ∧ w.heap.size ≤ x.gw ∧ x.gf < T ∧ x.gw < T := by have := H'.bx; have := H'.lx.lf; have := H'.lx.lw; have := H'.xy; have := H'.xy'; have := H'.ly.lf; have := H'.yT; omega
        clear H'
        go_wp2_with fail
        refine TU.mono ?_
        rintro e wt ⟨rfl, xs2, hx2, hl2, ha2, ho2⟩
        have H2 := HH'.out.turned hx2 ho2
        have O2 := O'.turned ho2 g1.2.2.1 g1.2.2.2
        have HT2' := HT.trans (ho2.below g1.1 g1.2.1)
        have hszt := ho2.size
        have HE2 : Hid (xs2.length = xs.length) := hl2.trans HXL.out
        clear TU O' HT hx2 ho2 HH' k0 kc kz' hl2
        have hsz3 : w2.heap.size ≤ wt.heap.size := by omega
        clear hszt
        go_wp2
        go_roundw
        case rel => exact ⟨2, xs2, _, _, by omega, by go_num, H2, O2, HL2.out, HE2.out, ha2, HT2', hsz3⟩
        case measure => simp [intOf]
      · have hk1' : ((k : Int) == 1) = false := by simp; omega
        have hsz3 : w2.heap.size ≤ (wa.setCell ⟨T, 2, none⟩ (.slice (some ⟨g, 0, none⟩) (2 * k + 2) cap1)).heap.size := by omega
        have HH' : Hid (Two (wa.setCell ⟨T, 2, none⟩ (.slice (some ⟨g, 0, none⟩) (2 * k + 2) cap1)) B0 T x y xs' ys (.slice (some ⟨g, 0, none⟩) (2 * k + 2) cap1)) := H'
        have HO' : Hid (Outs (wa.setCell ⟨T, 2, none⟩ (.slice (some ⟨g, 0, none⟩) (2 * k + 2) cap1)) T (.slice (some ⟨g, 0, none⟩) (2 * k + 2) cap1) (l ++ [(Value.slice c1 n1 d1, us1), (.slice c2 n2 d2, us2)])) := O'
        clear hszb H' O'
        go_wp2
        go_roundw
        case rel => exact ⟨k + 1, xs', _, _, by omega, by go_num, HH'.out, HO'.out, HL2.out, HXL.out, HXA.out, HT, hsz3⟩
        case measure => simp [intOf]; omega
    · have hkl : ¬ (k : Int) < 3 := by omega
      have EN := ends_any wr B0 T x y xs' ys lv l H O (by rw [HXL.out]; exact Ex.out) Ey.out (by rw [HXL.out]; omega) (by omega) (by rw [HL.out]; omega)
      clear H O
      go_wp2_with fail
      refine EN.mono ?_
      rintro e wz ⟨rfl, hb⟩
      have HZ : Below w.heap.size w wz := HT.trans (hb.mono hB0)
      clear EN hb HT
      go_wp2
      go_ret
      exact ⟨rfl, HZ⟩
end Go.Proofs.YtogdpgfccbohnaaDoor

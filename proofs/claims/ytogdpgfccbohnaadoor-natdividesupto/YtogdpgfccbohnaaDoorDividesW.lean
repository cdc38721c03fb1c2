import Derived.Test.YtogdpgfccbohnaaDoorDivS
import Derived.Test.YtogdpgfccbohnaaDoorRefN
import Derived.Test.YtogdpgfccbohnaaDoorTwoAdd
import Derived.Test.YtogdpgfccbohnaaDoorPowVal
namespace Go.Proofs.YtogdpgfccbohnaaDoor
open Go.RowKit

set_option maxRecDepth 100000 in
set_option maxHeartbeats 8000000 in
theorem divides_zero (a b : Option Addr) (na nb ca cb : Nat) (xs ys : List Int) (w : World) (ev : Value) (hna : na = xs.length) (hnb : nb = ys.length) (hla : na ≤ ca) (hlb : nb ≤ cb) (hma : na ≤ 1048576) (hmb : nb ≤ 1048576) (hra : Reads w a xs) (hrb : Reads w b ys) (hx : AllW xs) (hy : AllW ys) (E : Errs w 1 ev) (hc0 : val ys = 0) :
    Calls Tryd.prog 7 #[.slice a na ca, .slice b nb cb] w fun e w' => e = .returned (.bool true) ∧ Below w.heap.size w w' := by
  have HC : Hid (val ys = 0) := hc0
  have HT : Below w.heap.size w w := Below.refl _ _
  clear hc0
  obtain ⟨lx, hlx⟩ : ∃ lx, (lendL xs).length = lx := ⟨_, rfl⟩
  obtain ⟨ly, hly⟩ : ∃ ly, (lendL ys).length = ly := ⟨_, rfl⟩
  have HLX : Hid ((lendL xs).length = lx) := hlx
  have HLY : Hid ((lendL ys).length = ly) := hly
  clear hlx hly
  have NA : Num w a na ca (val xs) 1048576 := ⟨xs, hna, hla, hra, hx, rfl, hma⟩
  have NB : Num w b nb cb (val ys) 1048576 := ⟨ys, hnb, hlb, hrb, hy, rfl, hmb⟩
  have Hna : Hid (na = xs.length) := hna
  have Hnb : Hid (nb = ys.length) := hnb
  clear hna hnb
  go_enter Tryd.func7, Tryd.ntmps7
  go_wp2_with fail
  refine (awake_any _).mono ?_
  rintro e w1 ⟨rfl, hb⟩
  replace NA := NA.below hb
  replace NB := NB.below hb
  replace E := E.below hb
  replace hra := hra.below hb
  replace hrb := hrb.below hb
  have hs1 := hb.size
  replace HT := bel_tr HT hb
  clear hb
  go_wp2_with fail
  refine (lent_any a b na nb ca cb xs ys _ Hna.out Hnb.out hla hlb (by omega) (by omega) hra hrb).mono ?_
  rintro e w2 ⟨T, x, y, rfl, H, ex, ey, hb⟩
  replace NA := NA.below hb
  replace NB := NB.below hb
  replace E := E.below hb
  replace hra := hra.below hb
  replace hrb := hrb.below hb
  have hs2 := hb.size
  replace HT := bel_tr HT hb
  clear hb
  have HT2 : T + 1 ≤ w2.heap.size := H.lt
  have HTw : w1.heap.size < T := H.lo.1
  have O := Outs.nil w2 T
  have Ex : Hid (x.n = xs.length) := by show _ = _; rw [ex]; exact Hna.out
  have Ey : Hid (y.n = ys.length) := by show _ = _; rw [ey]; exact Hnb.out
  have hxl : xs.length ≤ 1048576 := by have := Hna.out; omega
  have hyl : ys.length ≤ 1048576 := by have := Hnb.out; omega
  have HX := LB.num H.lx Ex.out hx hxl
  have HY := LB.num H.ly Ey.out hy hyl
  clear ex ey hxl hyl
  clear hra
  have k0 := H.c0
  have k1 := H.c1
  have kx0 := H.lx.c0
  have kx2 := H.lx.c2
  have ky0 := H.ly.c0
  have ky2 := H.ly.c2
  have hnx : x.n ≤ x.cf := by have := H.lx.le; have := H.lx.rf.le; omega
  have hny : y.n ≤ y.cf := by have := H.ly.le; have := H.ly.rf.le; omega
  rw [HLX.out] at kx0
  rw [HLY.out] at ky0
  go_wp2_with fail
  go_region_held3 (fun w' => w'.cell? ⟨T, 0, none⟩ = some (.pointer (some ⟨x.r, 0, none⟩)) ∧ w'.cell? ⟨T, 1, none⟩ = some (.pointer (some ⟨y.r, 0, none⟩)) ∧ w'.cell? ⟨x.r, 0, none⟩ = some (.slice (some ⟨x.gf, 0, none⟩) lx x.cf) ∧ w'.cell? ⟨x.r, 2, none⟩ = some (.int .i64 x.n) ∧ w'.cell? ⟨y.r, 0, none⟩ = some (.slice (some ⟨y.gf, 0, none⟩) ly y.cf) ∧ w'.cell? ⟨y.r, 2, none⟩ = some (.int .i64 y.n))
      (first | (go_keep; done) | (refine ⟨?_, ?_, ?_, ?_, ?_, ?_⟩ <;> exact keep_bel hb (by go_keep)))
      ((first
        | (go_at_call 13; go_fit (lnat_c x.r x.gf x.cf x.n lx _ (by simp [*]) (by simp [*]) hnx); rintro e w' ⟨rfl, mA, rfl⟩)
        | (go_at_call 13; go_fit (lnat_c y.r y.gf y.cf y.n ly _ (by simp [*]) (by simp [*]) hny); rintro e w' ⟨rfl, mB, rfl⟩)
        | (go_at_call 36; go_fit (divE _ (HX.drewN _) (HC.out ▸ HY.drewN _) (by omega) (by omega) (E.below (belN (Below.refl _ _) _))); rintro e w3 ⟨rfl, hb⟩)))
  replace hb := bel_tr (belN (Below.refl _ w2) _) hb
  clear k0 k1 kx0 kx2 ky0 ky2 hnx hny
  replace NA := NA.below hb
  replace NB := NB.below hb
  replace E := E.below hb
  replace hrb := hrb.below hb
  replace H := H.below hb
  replace O := O.below hb
  replace HX := HX.below hb
  replace HY := HY.below hb
  have hs3 := hb.size
  replace HT := bel_tr HT hb
  clear hb
  have G1 := Got.nil w3 w2.heap.size
  have Q1 : Hid (∀ g, (Value.slice none 0 0).ownBlock = some g → False) := fun g hg => by simp [Value.ownBlock] at hg
  have G2 := Got.nil w3 w2.heap.size
  have Q2 : Hid (∀ g, (Value.slice none 0 0).ownBlock = some g → False) := fun g hg => by simp [Value.ownBlock] at hg
  have QD : Hid (∀ g, (Value.slice none 0 0).ownBlock = some g → (Value.slice none 0 0).ownBlock ≠ some g) := fun g hg => by simp [Value.ownBlock] at hg
  go_wp2_with fail
  refine (rbits_any b nb cb ys _ Hnb.out hlb (by omega) hrb hy).mono ?_
  rintro e w4 ⟨rfl, hb⟩
  replace NA := NA.below hb
  replace NB := NB.below hb
  replace E := E.below hb
  replace hrb := hrb.below hb
  replace H := H.below hb
  replace O := O.below hb
  replace HX := HX.below hb
  replace HY := HY.below hb
  replace G1 := G1.below hb
  replace G2 := G2.below hb
  have hs4 := hb.size
  replace HT := bel_tr HT hb
  clear hb
  rw [bits_eq hy]
  clear hrb
  rw [bitsL_zero hy HC.out]
  have hE := E.1
  go_wp2_with fail
  refine (refusedE _ E).mono ?_
  rintro e wsame ⟨rfl, rfl⟩
  clear hE
  clear NA NB HX HY
  obtain ⟨us1, o1, _, _, z1⟩ := G1
  obtain ⟨us2, o2, _, _, z2⟩ := G2
  replace o1 := o1.mono (B' := T + 1) (by omega)
  replace o2 := o2.mono (B' := T + 1) (by omega)
  have k2 := H.c2
  have kz := H.fz
  have kT := H.lt
  have HTL := O.tl
  have HLV : Hid ((([] : List (Value × List Int)).map (·.1)).length = 0) := rfl
  go_wp2_with (at_builtin; refine wpList_appendT2 _ rfl _ _ rfl (T + 1) (.slice none 0 0) (([] : List (Value × List Int)).map (·.1)) 0 HLV rfl (HTL.alloc _) w4.heap.size _ (.slice none 0 0) (.slice none 0 0) rfl (cell_two rfl).1 (cell_two rfl).2 rfl rfl (by omega) (by simp; omega) (w4.heap.size + 1) (by simp) ?_)
  intro g cap1 wa hown hgrow _ _
  obtain ⟨H', O', hb, kc, kz'⟩ := outs_add2 H O o1 o2 (fun p hp => absurd hp List.not_mem_nil) (fun p hp => absurd hp List.not_mem_nil) QD.out (by omega) (by omega) hown hgrow
  replace HT : Below w.heap.size w _ := HT.trans (hb.mono (by omega))
  have hzl : 2 ≤ 100 := by omega
  have EN := ends_any _ w1.heap.size T x y xs ys _ _ H' O' Ex.out Ey.out (by have := Hna.out; omega) (by have := Hnb.out; omega) hzl
  clear H' O' H O hown hgrow o1 o2 hb QD HTL k2 kz
  go_wp2_with fail
  refine EN.mono ?_
  rintro e wz ⟨rfl, hb⟩
  have HZ : Below w.heap.size w wz := HT.trans (hb.mono (by omega))
  clear EN hb HT
  go_wp2
  go_ret
  exact ⟨rfl, HZ⟩

set_option maxRecDepth 100000 in
set_option maxHeartbeats 8000000 in
theorem divides_pos (a b : Option Addr) (na nb ca cb : Nat) (xs ys : List Int) (w : World) (ev : Value) (hna : na = xs.length) (hnb : nb = ys.length) (hla : na ≤ ca) (hlb : nb ≤ cb) (hma : na ≤ 1048576) (hmb : nb ≤ 1048576) (hra : Reads w a xs) (hrb : Reads w b ys) (hx : AllW xs) (hy : AllW ys) (E : Errs w 1 ev) (hc0 : 0 < val ys) :
    Calls Tryd.prog 7 #[.slice a na ca, .slice b nb cb] w fun e w' => e = .returned (.bool true) ∧ Below w.heap.size w w' := by
  have HC : Hid (0 < val ys) := hc0
  have HT : Below w.heap.size w w := Below.refl _ _
  clear hc0
  obtain ⟨lx, hlx⟩ : ∃ lx, (lendL xs).length = lx := ⟨_, rfl⟩
  obtain ⟨ly, hly⟩ : ∃ ly, (lendL ys).length = ly := ⟨_, rfl⟩
  have HLX : Hid ((lendL xs).length = lx) := hlx
  have HLY : Hid ((lendL ys).length = ly) := hly
  clear hlx hly
  have NA : Num w a na ca (val xs) 1048576 := ⟨xs, hna, hla, hra, hx, rfl, hma⟩
  have NB : Num w b nb cb (val ys) 1048576 := ⟨ys, hnb, hlb, hrb, hy, rfl, hmb⟩
  have Hna : Hid (na = xs.length) := hna
  have Hnb : Hid (nb = ys.length) := hnb
  clear hna hnb
  go_enter Tryd.func7, Tryd.ntmps7
  go_wp2_with fail
  refine (awake_any _).mono ?_
  rintro e w1 ⟨rfl, hb⟩
  replace NA := NA.below hb
  replace NB := NB.below hb
  replace E := E.below hb
  replace hra := hra.below hb
  replace hrb := hrb.below hb
  have hs1 := hb.size
  replace HT := bel_tr HT hb
  clear hb
  go_wp2_with fail
  refine (lent_any a b na nb ca cb xs ys _ Hna.out Hnb.out hla hlb (by omega) (by omega) hra hrb).mono ?_
  rintro e w2 ⟨T, x, y, rfl, H, ex, ey, hb⟩
  replace NA := NA.below hb
  replace NB := NB.below hb
  replace E := E.below hb
  replace hra := hra.below hb
  replace hrb := hrb.below hb
  have hs2 := hb.size
  replace HT := bel_tr HT hb
  clear hb
  have HT2 : T + 1 ≤ w2.heap.size := H.lt
  have HTw : w1.heap.size < T := H.lo.1
  have O := Outs.nil w2 T
  have Ex : Hid (x.n = xs.length) := by show _ = _; rw [ex]; exact Hna.out
  have Ey : Hid (y.n = ys.length) := by show _ = _; rw [ey]; exact Hnb.out
  have hxl : xs.length ≤ 1048576 := by have := Hna.out; omega
  have hyl : ys.length ≤ 1048576 := by have := Hnb.out; omega
  have HX := LB.num H.lx Ex.out hx hxl
  have HY := LB.num H.ly Ey.out hy hyl
  clear ex ey hxl hyl
  clear hra
  have k0 := H.c0
  have k1 := H.c1
  have kx0 := H.lx.c0
  have kx2 := H.lx.c2
  have ky0 := H.ly.c0
  have ky2 := H.ly.c2
  have hnx : x.n ≤ x.cf := by have := H.lx.le; have := H.lx.rf.le; omega
  have hny : y.n ≤ y.cf := by have := H.ly.le; have := H.ly.rf.le; omega
  rw [HLX.out] at kx0
  rw [HLY.out] at ky0
  go_wp2_with fail
  go_region_held3 (fun w' => w'.cell? ⟨T, 0, none⟩ = some (.pointer (some ⟨x.r, 0, none⟩)) ∧ w'.cell? ⟨T, 1, none⟩ = some (.pointer (some ⟨y.r, 0, none⟩)) ∧ w'.cell? ⟨x.r, 0, none⟩ = some (.slice (some ⟨x.gf, 0, none⟩) lx x.cf) ∧ w'.cell? ⟨x.r, 2, none⟩ = some (.int .i64 x.n) ∧ w'.cell? ⟨y.r, 0, none⟩ = some (.slice (some ⟨y.gf, 0, none⟩) ly y.cf) ∧ w'.cell? ⟨y.r, 2, none⟩ = some (.int .i64 y.n))
      (first | (go_keep; done) | (refine ⟨?_, ?_, ?_, ?_, ?_, ?_⟩ <;> exact keep_bel hb (by go_keep)))
      ((first
        | (go_at_call 13; go_fit (lnat_c x.r x.gf x.cf x.n lx _ (by simp [*]) (by simp [*]) hnx); rintro e w' ⟨rfl, mA, rfl⟩)
        | (go_at_call 13; go_fit (lnat_c y.r y.gf y.cf y.n ly _ (by simp [*]) (by simp [*]) hny); rintro e w' ⟨rfl, mB, rfl⟩)
        | (go_at_call 36; go_fit (divG _ (HX.drewN _) (HY.drewN _) (by omega) (by omega) HC.out); rintro e w3 ⟨c1, n1, d1, c2, n2, d2, rfl, G1, G2, hdis, hb⟩)))
  replace hb := bel_tr (belN (Below.refl _ w2) _) hb
  clear k0 k1 kx0 kx2 ky0 ky2 hnx hny
  replace NA := NA.below hb
  replace NB := NB.below hb
  replace E := E.below hb
  replace hrb := hrb.below hb
  replace H := H.below hb
  replace O := O.below hb
  replace HX := HX.below hb
  replace HY := HY.below hb
  have hs3 := hb.size
  replace HT := bel_tr HT hb
  clear hb
  replace G1 := G1.mono (B' := w2.heap.size) (Nat.le_refl _)
  replace G2 := G2.mono (B' := w2.heap.size) (Nat.le_refl _)
  have QD : Hid (∀ g, (Value.slice c1 n1 d1).ownBlock = some g → (Value.slice c2 n2 d2).ownBlock ≠ some g) := hdis
  clear hdis
  go_wp2_with fail
  refine (rbits_any b nb cb ys _ Hnb.out hlb (by omega) hrb hy).mono ?_
  rintro e w4 ⟨rfl, hb⟩
  replace NA := NA.below hb
  replace NB := NB.below hb
  replace E := E.below hb
  replace hrb := hrb.below hb
  replace H := H.below hb
  replace O := O.below hb
  replace HX := HX.below hb
  replace HY := HY.below hb
  replace G1 := G1.below hb
  replace G2 := G2.below hb
  have hs4 := hb.size
  replace HT := bel_tr HT hb
  clear hb
  rw [bits_eq hy]
  clear hrb
  have hbz : (bitsL ys == 0) = false := by
    have h1 := val_bits hy
    have h2 := HC.out
    refine beq_eq_false_iff_ne.2 (fun h => ?_)
    rw [h] at h1
    simp at h1
    omega
  generalize bitsL ys = bt at *
  go_wp2_with fail
  refine (rdivV _ NA NB (by omega) (by omega) HC.out).mono ?_
  rintro e w5 ⟨r1, m1, t1, r2, m2, t2, rfl, R1, R2, hb⟩
  replace NA := NA.below hb
  replace NB := NB.below hb
  replace E := E.below hb
  replace H := H.below hb
  replace O := O.below hb
  replace HX := HX.below hb
  replace HY := HY.below hb
  replace G1 := G1.below hb
  replace G2 := G2.below hb
  have hs5 := hb.size
  replace HT := bel_tr HT hb
  clear hb
  go_wp2_with fail
  refine (isG _ G1 R1 rfl (by omega)).mono ?_
  rintro e w6 ⟨rfl, hb⟩
  replace NA := NA.below hb
  replace NB := NB.below hb
  replace E := E.below hb
  replace H := H.below hb
  replace O := O.below hb
  replace HX := HX.below hb
  replace HY := HY.below hb
  replace G1 := G1.below hb
  replace G2 := G2.below hb
  replace R1 := R1.below hb
  replace R2 := R2.below hb
  have hs6 := hb.size
  replace HT := bel_tr HT hb
  clear hb
  go_wp2_with fail
  refine (isG _ G2 R2 rfl (by omega)).mono ?_
  rintro e w7 ⟨rfl, hb⟩
  replace NA := NA.below hb
  replace NB := NB.below hb
  replace E := E.below hb
  replace H := H.below hb
  replace O := O.below hb
  replace HX := HX.below hb
  replace HY := HY.below hb
  replace G1 := G1.below hb
  replace G2 := G2.below hb
  replace R1 := R1.below hb
  replace R2 := R2.below hb
  have hs7 := hb.size
  replace HT := bel_tr HT hb
  clear hb
  clear R1 R2
  clear NA NB HX HY
  obtain ⟨us1, o1, _, _, z1⟩ := G1
  obtain ⟨us2, o2, _, _, z2⟩ := G2
  replace o1 := o1.mono (B' := T + 1) (by omega)
  replace o2 := o2.mono (B' := T + 1) (by omega)
  have k2 := H.c2
  have kz := H.fz
  have kT := H.lt
  have HTL := O.tl
  have HLV : Hid ((([] : List (Value × List Int)).map (·.1)).length = 0) := rfl
  go_wp2_with (at_builtin; refine wpList_appendT2 _ rfl _ _ rfl (T + 1) (.slice none 0 0) (([] : List (Value × List Int)).map (·.1)) 0 HLV rfl (HTL.alloc _) w7.heap.size _ (.slice c1 n1 d1) (.slice c2 n2 d2) rfl (cell_two rfl).1 (cell_two rfl).2 rfl rfl (by omega) (by simp; omega) (w7.heap.size + 1) (by simp) ?_)
  intro g cap1 wa hown hgrow _ _
  obtain ⟨H', O', hb, kc, kz'⟩ := outs_add2 H O o1 o2 (fun p hp => absurd hp List.not_mem_nil) (fun p hp => absurd hp List.not_mem_nil) QD.out (by omega) (by omega) hown hgrow
  replace HT : Below w.heap.size w _ := HT.trans (hb.mono (by omega))
  have hzl : 2 ≤ 100 := by omega
  have EN := ends_any _ w1.heap.size T x y xs ys _ _ H' O' Ex.out Ey.out (by have := Hna.out; omega) (by have := Hnb.out; omega) hzl
  clear H' O' H O hown hgrow o1 o2 hb QD HTL k2 kz
  go_wp2_with fail
  refine EN.mono ?_
  rintro e wz ⟨rfl, hb⟩
  have HZ : Below w.heap.size w wz := HT.trans (hb.mono (by omega))
  clear EN hb HT
  go_wp2
  go_ret
  exact ⟨rfl, HZ⟩

theorem divides_walk (a b : Option Addr) (na nb ca cb : Nat) (xs ys : List Int) (w : World) (ev : Value) (hna : na = xs.length) (hnb : nb = ys.length) (hla : na ≤ ca) (hlb : nb ≤ cb) (hma : na ≤ 1048576) (hmb : nb ≤ 1048576) (hra : Reads w a xs) (hrb : Reads w b ys) (hx : AllW xs) (hy : AllW ys) (E : Errs w 1 ev) :
    Calls Tryd.prog 7 #[.slice a na ca, .slice b nb cb] w fun e w' => e = .returned (.bool true) ∧ Below w.heap.size w w' := by
  have h0 := val_nn hy
  rcases (by omega : val ys = 0 ∨ 0 < val ys) with h | h
  · exact divides_zero a b na nb ca cb xs ys w ev hna hnb hla hlb hma hmb hra hrb hx hy E h
  · exact divides_pos a b na nb ca cb xs ys w ev hna hnb hla hlb hma hmb hra hrb hx hy E h
end Go.Proofs.YtogdpgfccbohnaaDoor

import Derived.Test.YtogdpgfccbohnabDoorRefShift
import Derived.Test.YtogdpgfccbohnabDoorTwoAdd
namespace Go.Proofs.YtogdpgfccbohnabDoor
open Go.RowKit

set_option maxRecDepth 100000 in
set_option maxHeartbeats 1000000 in
theorem shifts_A (a : Option Addr) (na ca : Nat) (xs : List Int) (n : Int) (w : World) (ev fv : Value) (hna : na = xs.length) (hla : na ≤ ca) (hma : na ≤ 1048576) (hra : Reads w a xs) (hx : AllW xs) (hn : n < 0) (E : Errs w 0 ev) (F : Errs w 1 fv) :
    Calls Tryd.prog 3 #[.slice a na ca, .int .i64 n] w fun e w' => e = .returned (.bool true) ∧ Below w.heap.size w w' := by
  have HT : Below w.heap.size w w := Below.refl _ _
  have NA : Num w a na ca (val xs) 1048576 := ⟨xs, hna, hla, hra, hx, rfl, hma⟩
  have Hna : Hid (na = xs.length) := hna
  clear hna
  go_enter Tryd.func3, Tryd.ntmps3
  go_wp2_with fail
  refine (awake_any _).mono ?_
  rintro e w1 ⟨rfl, hb⟩
  replace NA := NA.below hb
  replace hra := hra.below hb
  replace E := E.below hb
  replace F := F.below hb
  have hs1 := hb.size
  replace HT := bel_tr HT hb
  clear hb
  go_wp2_with fail
  refine (lent_any a none na 0 ca 0 xs [] _ Hna.out rfl hla (Nat.le_refl _) (by omega) (by omega) hra (.inl rfl)).mono ?_
  rintro e w2 ⟨T, x, y, rfl, H, ex, ey, hb⟩
  replace NA := NA.below hb
  replace hra := hra.below hb
  replace E := E.below hb
  replace F := F.below hb
  have hs2 := hb.size
  replace HT := bel_tr HT hb
  clear hb
  have HT2 : T + 1 ≤ w2.heap.size := H.lt
  have HTw : w1.heap.size < T := H.lo.1
  have O := Outs.nil w2 T
  have Ex : Hid (x.n = xs.length) := by show _ = _; rw [ex]; exact Hna.out
  have Ey : Hid (y.n = ([] : List Int).length) := by show _ = _; rw [ey]; rfl
  have hxl : xs.length ≤ 1048576 := by have := Hna.out; omega
  have HX := LB.num H.lx Ex.out hx hxl
  clear ex ey
  clear hra
  have k0 := H.c0
  go_wp2_with fail
  refine (lnatG _ x.r x.gf x.cf x.gw x.cw x.n _ _ H.lx).mono ?_
  rintro e w3 ⟨rfl, hb⟩
  replace NA := NA.below hb
  replace E := E.below hb
  replace F := F.below hb
  replace H := H.below hb
  replace O := O.below hb
  replace HX := HX.below hb
  have hs3 := hb.size
  replace HT := bel_tr HT hb
  clear hb
  clear k0
  go_wp2_with fail
  refine (shlArg _ x.n x.cf n ev _ hn E).mono ?_
  rintro e w4 ⟨rfl, hb⟩
  replace NA := NA.below hb
  replace E := E.below hb
  replace F := F.below hb
  replace H := H.below hb
  replace O := O.below hb
  replace HX := HX.below hb
  have hs4 := hb.size
  replace HT := bel_tr HT hb
  clear hb
  have G1 := Got.nil w4 w3.heap.size
  have Q1 : Hid (∀ g, (Value.slice none 0 0).ownBlock = some g → w3.heap.size ≤ g ∧ g < w4.heap.size) := fun g hg => by simp [Value.ownBlock] at hg
  have k0 := H.c0
  go_wp2_with fail
  refine (lnatG _ x.r x.gf x.cf x.gw x.cw x.n _ _ H.lx).mono ?_
  rintro e w5 ⟨rfl, hb⟩
  replace NA := NA.below hb
  replace E := E.below hb
  replace F := F.below hb
  replace H := H.below hb
  replace O := O.below hb
  replace HX := HX.below hb
  replace G1 := G1.below hb
  have hs5 := hb.size
  replace HT := bel_tr HT hb
  clear hb
  clear k0
  go_wp2_with fail
  refine (shrArg _ x.n x.cf n ev _ hn E).mono ?_
  rintro e w6 ⟨rfl, hb⟩
  replace NA := NA.below hb
  replace E := E.below hb
  replace F := F.below hb
  replace H := H.below hb
  replace O := O.below hb
  replace HX := HX.below hb
  replace G1 := G1.below hb
  have hs6 := hb.size
  replace HT := bel_tr HT hb
  clear hb
  have G2 := Got.nil w6 w5.heap.size
  have Q2 : Hid (∀ g, (Value.slice none 0 0).ownBlock = some g → w5.heap.size ≤ g ∧ g < w6.heap.size) := fun g hg => by simp [Value.ownBlock] at hg
  have hE := E.1
  go_wp2_with fail
  refine (refusedE _ E).mono ?_
  rintro e wsame ⟨rfl, rfl⟩
  go_wp2_with fail
  refine (refusedE _ E).mono ?_
  rintro e wsame ⟨rfl, rfl⟩
  clear hE
  clear NA HX
  obtain ⟨us1, o1, _, _, z1⟩ := G1
  obtain ⟨us2, o2, _, _, z2⟩ := G2
  replace o1 := o1.mono (B' := T + 1) (by omega)
  replace o2 := o2.mono (B' := T + 1) (by omega)
  have k2 := H.c2
  have kz := H.fz
  have kT := H.lt
  have HTL := O.tl
  have HLV : Hid ((([] : List (Value × List Int)).map (·.1)).length = 0) := rfl
  go_wp2_with (at_builtin; refine wpList_appendT2 _ rfl _ _ rfl (T + 1) (.slice none 0 0) (([] : List (Value × List Int)).map (·.1)) 0 HLV rfl (HTL.alloc _) w6.heap.size _ (.slice none 0 0) (.slice none 0 0) rfl (cell_two rfl).1 (cell_two rfl).2 rfl rfl (by omega) (by simp; omega) (w6.heap.size + 1) (by simp) ?_)
  intro g cap1 wa hown hgrow _ _
  obtain ⟨H', O', hb, kc, kz'⟩ := outs_add2 H O o1 o2 (fun p hp => absurd hp List.not_mem_nil) (fun p hp => absurd hp List.not_mem_nil) (fun g hg e => by have a1 := Q1.out g hg; have a2 := Q2.out g e; omega) (by omega) (by omega) hown hgrow
  replace HT : Below w.heap.size w _ := HT.trans (hb.mono (by omega))
  have hzl : 2 ≤ 100 := by omega
  have EN := ends_any _ w1.heap.size T x y xs [] _ _ H' O' Ex.out Ey.out (by omega) (by simp) hzl
  clear H' O' H O hown hgrow o1 o2 hb Q1 Q2 HTL k2 kz
  go_wp2_with fail
  refine EN.mono ?_
  rintro e wz ⟨rfl, hb⟩
  have HZ : Below w.heap.size w wz := HT.trans (hb.mono (by omega))
  clear EN hb HT
  go_wp2
  go_ret
  exact ⟨rfl, HZ⟩

set_option maxRecDepth 100000 in
set_option maxHeartbeats 1000000 in
theorem shifts_B (a : Option Addr) (na ca : Nat) (xs : List Int) (n : Nat) (w : World) (ev fv : Value) (hna : na = xs.length) (hla : na ≤ ca) (hma : na ≤ 1048576) (hra : Reads w a xs) (hx : AllW xs) (hnI : 65536 < (n : Int)) (hn2 : n ≤ 9223372036854775807) (E : Errs w 0 ev) (F : Errs w 1 fv) :
    Calls Tryd.prog 3 #[.slice a na ca, .int .i64 n] w fun e w' => e = .returned (.bool true) ∧ Below w.heap.size w w' := by
  have HT : Below w.heap.size w w := Below.refl _ _
  have NA : Num w a na ca (val xs) 1048576 := ⟨xs, hna, hla, hra, hx, rfl, hma⟩
  have Hna : Hid (na = xs.length) := hna
  clear hna
  go_enter Tryd.func3, Tryd.ntmps3
  go_wp2_with fail
  refine (awake_any _).mono ?_
  rintro e w1 ⟨rfl, hb⟩
  replace NA := NA.below hb
  replace hra := hra.below hb
  replace E := E.below hb
  replace F := F.below hb
  have hs1 := hb.size
  replace HT := bel_tr HT hb
  clear hb
  go_wp2_with fail
  refine (lent_any a none na 0 ca 0 xs [] _ Hna.out rfl hla (Nat.le_refl _) (by omega) (by omega) hra (.inl rfl)).mono ?_
  rintro e w2 ⟨T, x, y, rfl, H, ex, ey, hb⟩
  replace NA := NA.below hb
  replace hra := hra.below hb
  replace E := E.below hb
  replace F := F.below hb
  have hs2 := hb.size
  replace HT := bel_tr HT hb
  clear hb
  have HT2 : T + 1 ≤ w2.heap.size := H.lt
  have HTw : w1.heap.size < T := H.lo.1
  have O := Outs.nil w2 T
  have Ex : Hid (x.n = xs.length) := by show _ = _; rw [ex]; exact Hna.out
  have Ey : Hid (y.n = ([] : List Int).length) := by show _ = _; rw [ey]; rfl
  have hxl : xs.length ≤ 1048576 := by have := Hna.out; omega
  have HX := LB.num H.lx Ex.out hx hxl
  clear ex ey
  clear hra
  have k0 := H.c0
  go_wp2_with fail
  refine (lnatG _ x.r x.gf x.cf x.gw x.cw x.n _ _ H.lx).mono ?_
  rintro e w3 ⟨rfl, hb⟩
  replace NA := NA.below hb
  replace E := E.below hb
  replace F := F.below hb
  replace H := H.below hb
  replace O := O.below hb
  replace HX := HX.below hb
  have hs3 := hb.size
  replace HT := bel_tr HT hb
  clear hb
  clear k0
  go_wp2_with fail
  refine (shlLong _ x.n x.cf n fv _ hnI F).mono ?_
  rintro e w4 ⟨rfl, hb⟩
  replace NA := NA.below hb
  replace E := E.below hb
  replace F := F.below hb
  replace H := H.below hb
  replace O := O.below hb
  replace HX := HX.below hb
  have hs4 := hb.size
  replace HT := bel_tr HT hb
  clear hb
  have G1 := Got.nil w4 w3.heap.size
  have Q1 : Hid (∀ g, (Value.slice none 0 0).ownBlock = some g → w3.heap.size ≤ g ∧ g < w4.heap.size) := fun g hg => by simp [Value.ownBlock] at hg
  have k0 := H.c0
  go_wp2_with fail
  refine (lnatG _ x.r x.gf x.cf x.gw x.cw x.n _ _ H.lx).mono ?_
  rintro e w5 ⟨rfl, hb⟩
  replace NA := NA.below hb
  replace E := E.below hb
  replace F := F.below hb
  replace H := H.below hb
  replace O := O.below hb
  replace HX := HX.below hb
  replace G1 := G1.below hb
  have hs5 := hb.size
  replace HT := bel_tr HT hb
  clear hb
  clear k0
  go_wp2_with fail
  refine (shrG n _ HX (by omega) hn2).mono ?_
  rintro e w6 ⟨c2, n2, d2, rfl, G2, hb⟩
  replace NA := NA.below hb
  replace E := E.below hb
  replace F := F.below hb
  replace H := H.below hb
  replace O := O.below hb
  replace HX := HX.below hb
  replace G1 := G1.below hb
  have hs6 := hb.size
  replace HT := bel_tr HT hb
  clear hb
  have Q2 : Hid (∀ g, (Value.slice c2 n2 d2).ownBlock = some g → w5.heap.size ≤ g ∧ g < w6.heap.size) := fun g hg => by have := G2.lt g hg; exact this
  have hF := F.1
  have hnl : ¬ (n : Int) < 0 := by omega
  go_wp2_with fail
  refine (refusedE _ F).mono ?_
  rintro e wsame ⟨rfl, rfl⟩
  clear hF
  go_wp2_with fail
  refine (rshrG n _ NA (by omega) hn2).mono ?_
  rintro e w7 ⟨r2, m2, t2, rfl, R2, hb⟩
  replace NA := NA.below hb
  replace E := E.below hb
  replace F := F.below hb
  replace H := H.below hb
  replace O := O.below hb
  replace HX := HX.below hb
  replace G1 := G1.below hb
  replace G2 := G2.below hb
  have hs7 := hb.size
  replace HT := bel_tr HT hb
  clear hb
  go_wp2_with fail
  refine (isG _ G2 R2 rfl (by omega)).mono ?_
  rintro e w8 ⟨rfl, hb⟩
  replace NA := NA.below hb
  replace E := E.below hb
  replace F := F.below hb
  replace H := H.below hb
  replace O := O.below hb
  replace HX := HX.below hb
  replace G1 := G1.below hb
  replace G2 := G2.below hb
  replace R2 := R2.below hb
  have hs8 := hb.size
  replace HT := bel_tr HT hb
  clear hb
  clear R2
  clear NA HX
  obtain ⟨us1, o1, _, _, z1⟩ := G1
  obtain ⟨us2, o2, _, _, z2⟩ := G2
  replace o1 := o1.mono (B' := T + 1) (by omega)
  replace o2 := o2.mono (B' := T + 1) (by omega)
  have k2 := H.c2
  have kz := H.fz
  have kT := H.lt
  have HTL := O.tl
  have HLV : Hid ((([] : List (Value × List Int)).map (·.1)).length = 0) := rfl
  go_wp2_with (at_builtin; refine wpList_appendT2 _ rfl _ _ rfl (T + 1) (.slice none 0 0) (([] : List (Value × List Int)).map (·.1)) 0 HLV rfl (HTL.alloc _) w8.heap.size _ (.slice none 0 0) (.slice c2 n2 d2) rfl (cell_two rfl).1 (cell_two rfl).2 rfl rfl (by omega) (by simp; omega) (w8.heap.size + 1) (by simp) ?_)
  intro g cap1 wa hown hgrow _ _
  obtain ⟨H', O', hb, kc, kz'⟩ := outs_add2 H O o1 o2 (fun p hp => absurd hp List.not_mem_nil) (fun p hp => absurd hp List.not_mem_nil) (fun g hg e => by have a1 := Q1.out g hg; have a2 := Q2.out g e; omega) (by omega) (by omega) hown hgrow
  replace HT : Below w.heap.size w _ := HT.trans (hb.mono (by omega))
  have hzl : 2 ≤ 100 := by omega
  have EN := ends_any _ w1.heap.size T x y xs [] _ _ H' O' Ex.out Ey.out (by omega) (by simp) hzl
  clear H' O' H O hown hgrow o1 o2 hb Q1 Q2 HTL k2 kz
  go_wp2_with fail
  refine EN.mono ?_
  rintro e wz ⟨rfl, hb⟩
  have HZ : Below w.heap.size w wz := HT.trans (hb.mono (by omega))
  clear EN hb HT
  go_wp2
  go_ret
  exact ⟨rfl, HZ⟩

set_option maxRecDepth 100000 in
set_option maxHeartbeats 1000000 in
theorem shifts_C (a : Option Addr) (na ca : Nat) (xs : List Int) (n : Nat) (w : World) (ev fv : Value) (hna : na = xs.length) (hla : na ≤ ca) (hma : na ≤ 1048576) (hra : Reads w a xs) (hx : AllW xs) (hn : n ≤ 65536) (E : Errs w 0 ev) (F : Errs w 1 fv) :
    Calls Tryd.prog 3 #[.slice a na ca, .int .i64 n] w fun e w' => e = .returned (.bool true) ∧ Below w.heap.size w w' := by
  have HT : Below w.heap.size w w := Below.refl _ _
  have NA : Num w a na ca (val xs) 1048576 := ⟨xs, hna, hla, hra, hx, rfl, hma⟩
  have Hna : Hid (na = xs.length) := hna
  clear hna
  go_enter Tryd.func3, Tryd.ntmps3
  go_wp2_with fail
  refine (awake_any _).mono ?_
  rintro e w1 ⟨rfl, hb⟩
  replace NA := NA.below hb
  replace hra := hra.below hb
  replace E := E.below hb
  replace F := F.below hb
  have hs1 := hb.size
  replace HT := bel_tr HT hb
  clear hb
  go_wp2_with fail
  refine (lent_any a none na 0 ca 0 xs [] _ Hna.out rfl hla (Nat.le_refl _) (by omega) (by omega) hra (.inl rfl)).mono ?_
  rintro e w2 ⟨T, x, y, rfl, H, ex, ey, hb⟩
  replace NA := NA.below hb
  replace hra := hra.below hb
  replace E := E.below hb
  replace F := F.below hb
  have hs2 := hb.size
  replace HT := bel_tr HT hb
  clear hb
  have HT2 : T + 1 ≤ w2.heap.size := H.lt
  have HTw : w1.heap.size < T := H.lo.1
  have O := Outs.nil w2 T
  have Ex : Hid (x.n = xs.length) := by show _ = _; rw [ex]; exact Hna.out
  have Ey : Hid (y.n = ([] : List Int).length) := by show _ = _; rw [ey]; rfl
  have hxl : xs.length ≤ 1048576 := by have := Hna.out; omega
  have HX := LB.num H.lx Ex.out hx hxl
  clear ex ey
  clear hra
  have k0 := H.c0
  go_wp2_with fail
  refine (lnatG _ x.r x.gf x.cf x.gw x.cw x.n _ _ H.lx).mono ?_
  rintro e w3 ⟨rfl, hb⟩
  replace NA := NA.below hb
  replace E := E.below hb
  replace F := F.below hb
  replace H := H.below hb
  replace O := O.below hb
  replace HX := HX.below hb
  have hs3 := hb.size
  replace HT := bel_tr HT hb
  clear hb
  clear k0
  go_wp2_with fail
  refine (shlG n _ HX (by omega) hn).mono ?_
  rintro e w4 ⟨c1, n1, d1, rfl, G1, hb⟩
  replace NA := NA.below hb
  replace E := E.below hb
  replace F := F.below hb
  replace H := H.below hb
  replace O := O.below hb
  replace HX := HX.below hb
  have hs4 := hb.size
  replace HT := bel_tr HT hb
  clear hb
  have Q1 : Hid (∀ g, (Value.slice c1 n1 d1).ownBlock = some g → w3.heap.size ≤ g ∧ g < w4.heap.size) := fun g hg => by have := G1.lt g hg; exact this
  have k0 := H.c0
  go_wp2_with fail
  refine (lnatG _ x.r x.gf x.cf x.gw x.cw x.n _ _ H.lx).mono ?_
  rintro e w5 ⟨rfl, hb⟩
  replace NA := NA.below hb
  replace E := E.below hb
  replace F := F.below hb
  replace H := H.below hb
  replace O := O.below hb
  replace HX := HX.below hb
  replace G1 := G1.below hb
  have hs5 := hb.size
  replace HT := bel_tr HT hb
  clear hb
  clear k0
  go_wp2_with fail
  refine (shrG n _ HX (by omega) (by omega)).mono ?_
  rintro e w6 ⟨c2, n2, d2, rfl, G2, hb⟩
  replace NA := NA.below hb
  replace E := E.below hb
  replace F := F.below hb
  replace H := H.below hb
  replace O := O.below hb
  replace HX := HX.below hb
  replace G1 := G1.below hb
  have hs6 := hb.size
  replace HT := bel_tr HT hb
  clear hb
  have Q2 : Hid (∀ g, (Value.slice c2 n2 d2).ownBlock = some g → w5.heap.size ≤ g ∧ g < w6.heap.size) := fun g hg => by have := G2.lt g hg; exact this
  have hnl : ¬ (n : Int) < 0 := by omega
  have hnl2 : ¬ 65536 < (n : Int) := by omega
  go_wp2_with fail
  refine (rshlG n _ NA (by omega) hn).mono ?_
  rintro e w7 ⟨r1, m1, t1, rfl, R1, hb⟩
  replace NA := NA.below hb
  replace E := E.below hb
  replace F := F.below hb
  replace H := H.below hb
  replace O := O.below hb
  replace HX := HX.below hb
  replace G1 := G1.below hb
  replace G2 := G2.below hb
  have hs7 := hb.size
  replace HT := bel_tr HT hb
  clear hb
  go_wp2_with fail
  refine (isG _ G1 R1 rfl (by omega)).mono ?_
  rintro e w8 ⟨rfl, hb⟩
  replace NA := NA.below hb
  replace E := E.below hb
  replace F := F.below hb
  replace H := H.below hb
  replace O := O.below hb
  replace HX := HX.below hb
  replace G1 := G1.below hb
  replace G2 := G2.below hb
  replace R1 := R1.below hb
  have hs8 := hb.size
  replace HT := bel_tr HT hb
  clear hb
  clear R1
  go_wp2_with fail
  refine (rshrG n _ NA (by omega) (by omega)).mono ?_
  rintro e w9 ⟨r2, m2, t2, rfl, R2, hb⟩
  replace NA := NA.below hb
  replace E := E.below hb
  replace F := F.below hb
  replace H := H.below hb
  replace O := O.below hb
  replace HX := HX.below hb
  replace G1 := G1.below hb
  replace G2 := G2.below hb
  have hs9 := hb.size
  replace HT := bel_tr HT hb
  clear hb
  go_wp2_with fail
  refine (isG _ G2 R2 rfl (by omega)).mono ?_
  rintro e w10 ⟨rfl, hb⟩
  replace NA := NA.below hb
  replace E := E.below hb
  replace F := F.below hb
  replace H := H.below hb
  replace O := O.below hb
  replace HX := HX.below hb
  replace G1 := G1.below hb
  replace G2 := G2.below hb
  replace R2 := R2.below hb
  have hs10 := hb.size
  replace HT := bel_tr HT hb
  clear hb
  clear R2
  clear NA HX
  obtain ⟨us1, o1, _, _, z1⟩ := G1
  obtain ⟨us2, o2, _, _, z2⟩ := G2
  replace o1 := o1.mono (B' := T + 1) (by omega)
  replace o2 := o2.mono (B' := T + 1) (by omega)
  have k2 := H.c2
  have kz := H.fz
  have kT := H.lt
  have HTL := O.tl
  have HLV : Hid ((([] : List (Value × List Int)).map (·.1)).length = 0) := rfl
  go_wp2_with (at_builtin; refine wpList_appendT2 _ rfl _ _ rfl (T + 1) (.slice none 0 0) (([] : List (Value × List Int)).map (·.1)) 0 HLV rfl (HTL.alloc _) w10.heap.size _ (.slice c1 n1 d1) (.slice c2 n2 d2) rfl (cell_two rfl).1 (cell_two rfl).2 rfl rfl (by omega) (by simp; omega) (w10.heap.size + 1) (by simp) ?_)
  intro g cap1 wa hown hgrow _ _
  obtain ⟨H', O', hb, kc, kz'⟩ := outs_add2 H O o1 o2 (fun p hp => absurd hp List.not_mem_nil) (fun p hp => absurd hp List.not_mem_nil) (fun g hg e => by have a1 := Q1.out g hg; have a2 := Q2.out g e; omega) (by omega) (by omega) hown hgrow
  replace HT : Below w.heap.size w _ := HT.trans (hb.mono (by omega))
  have hzl : 2 ≤ 100 := by omega
  have EN := ends_any _ w1.heap.size T x y xs [] _ _ H' O' Ex.out Ey.out (by omega) (by simp) hzl
  clear H' O' H O hown hgrow o1 o2 hb Q1 Q2 HTL k2 kz
  go_wp2_with fail
  refine EN.mono ?_
  rintro e wz ⟨rfl, hb⟩
  have HZ : Below w.heap.size w wz := HT.trans (hb.mono (by omega))
  clear EN hb HT
  go_wp2
  go_ret
  exact ⟨rfl, HZ⟩

theorem shifts_walk (a : Option Addr) (na ca : Nat) (xs : List Int) (n : Int) (w : World) (ev fv : Value) (hna : na = xs.length) (hla : na ≤ ca) (hma : na ≤ 1048576) (hra : Reads w a xs) (hx : AllW xs) (h2 : n ≤ 9223372036854775807) (E : Errs w 0 ev) (F : Errs w 1 fv) :
    Calls Tryd.prog 3 #[.slice a na ca, .int .i64 n] w fun e w' => e = .returned (.bool true) ∧ Below w.heap.size w w' := by
  by_cases hn : n < 0
  · exact shifts_A a na ca xs n w ev fv hna hla hma hra hx hn E F
  · obtain ⟨m, rfl⟩ := Int.eq_ofNat_of_zero_le (by omega : 0 ≤ n)
    by_cases hb : 65536 < (m : Int)
    · exact shifts_B a na ca xs m w ev fv hna hla hma hra hx hb (by omega) E F
    · exact shifts_C a na ca xs m w ev fv hna hla hma hra hx (by omega) E F
end Go.Proofs.YtogdpgfccbohnabDoor

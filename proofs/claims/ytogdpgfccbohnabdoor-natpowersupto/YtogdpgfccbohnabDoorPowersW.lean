import Derived.Test.YtogdpgfccbohnabDoorRefPow
import Derived.Test.YtogdpgfccbohnabDoorTwoAdd1
namespace Go.Proofs.YtogdpgfccbohnabDoor
open Go.RowKit

set_option maxRecDepth 100000 in
set_option maxHeartbeats 1000000 in
theorem powers_A (a : Option Addr) (na ca : Nat) (xs : List Int) (n : Int) (w : World) (ev fv : Value) (hna : na = xs.length) (hla : na ≤ ca) (hma : na ≤ 1048576) (hra : Reads w a xs) (hx : AllW xs) (hn : n < 0) (E : Errs w 0 ev) (F : Errs w 1 fv) :
    Calls Tryd.prog 4 #[.slice a na ca, .int .i64 n] w fun e w' => e = .returned (.bool true) ∧ Below w.heap.size w w' := by
  have HT : Below w.heap.size w w := Below.refl _ _
  have Hna : Hid (na = xs.length) := hna
  clear hna
  have hbnd := bits_nn xs hx (by have := Hna.out; omega)
  obtain ⟨hbn0, hbn1⟩ := hbnd
  have HBn0 : Hid (0 ≤ bitsL xs) := hbn0
  have HBn1 : Hid (bitsL xs ≤ 64000000000) := hbn1
  clear hbn0 hbn1
  go_enter Tryd.func4, Tryd.ntmps4
  go_wp2_with fail
  refine (awake_any _).mono ?_
  rintro e w1 ⟨rfl, hb⟩
  replace hra := hra.below hb
  replace E := E.below hb
  replace F := F.below hb
  have hs1 := hb.size
  replace HT := bel_tr HT hb
  clear hb
  go_wp2_with fail
  refine (lent_any a none na 0 ca 0 xs [] _ Hna.out rfl hla (Nat.le_refl _) (by omega) (by omega) hra (.inl rfl)).mono ?_
  rintro e w2 ⟨T, x, y, rfl, H, ex, ey, hb⟩
  replace hra := hra.below hb
  replace E := E.below hb
  replace F := F.below hb
  have hs2 := hb.size
  replace HT := bel_tr HT hb
  clear hb
  have HT2 : T + 1 ≤ w2.heap.size := H.lt
  have HTw : w1.heap.size < T := H.lo.1
  have O := Outs.nil w2 T
  have Ex : Hid (x.n = xs.length) := by show _ = _; rw [ex]; exact Hna.out
  have Ey : Hid (y.n = ([] : List Int).length) := by show _ = _; rw [ey]; rfl
  have hxl : xs.length ≤ 1048576 := by have := Hna.out; omega
  clear ex ey
  have k0 := H.c0
  go_wp2_with fail
  refine (lnatG _ x.r x.gf x.cf x.gw x.cw x.n _ _ H.lx).mono ?_
  rintro e w3 ⟨rfl, hb⟩
  replace hra := hra.below hb
  replace E := E.below hb
  replace F := F.below hb
  replace H := H.below hb
  replace O := O.below hb
  have hs3 := hb.size
  replace HT := bel_tr HT hb
  clear hb
  clear k0
  have RX : Hid (x.n = xs.length ∧ x.n ≤ x.cf ∧ Reads w3 (some ⟨x.gf, 0, none⟩) xs) := (LB.own H.lx Ex.out (Nat.le_refl _)).reads
  go_wp2_with fail
  refine (powArg _ x.n x.cf n ev _ hn E).mono ?_
  rintro e w4 ⟨rfl, hb⟩
  replace hra := hra.below hb
  replace E := E.below hb
  replace F := F.below hb
  replace H := H.below hb
  replace O := O.below hb
  have hs4 := hb.size
  replace HT := bel_tr HT hb
  clear hb
  clear RX
  have G1 := Got.nil w4 w3.heap.size
  go_wp2_with fail
  refine (rbits_any a na ca xs _ Hna.out hla (by omega) hra hx).mono ?_
  rintro e w5 ⟨rfl, hb⟩
  replace hra := hra.below hb
  replace E := E.below hb
  replace F := F.below hb
  replace H := H.below hb
  replace O := O.below hb
  replace G1 := G1.below hb
  have hs5 := hb.size
  replace HT := bel_tr HT hb
  clear hb
  rw [bits_eq hx]
  generalize bitsL xs = bt at *
  have hE := E.1
  go_wp2_with fail
  refine (refusedE _ E).mono ?_
  rintro e wsame ⟨rfl, rfl⟩
  clear hE
  obtain ⟨us1, o1, _, _, z1⟩ := G1
  replace o1 := o1.mono (B' := T + 1) (by omega)
  have k2 := H.c2
  have kz := H.fz
  have kT := H.lt
  have HTL := O.tl
  have HLV : Hid ((([] : List (Value × List Int)).map (·.1)).length = 0) := rfl
  go_wp2_with (at_builtin; refine wpList_appendT1 _ rfl _ _ rfl (T + 1) (.slice none 0 0) (([] : List (Value × List Int)).map (·.1)) 0 HLV rfl (HTL.alloc _) w5.heap.size _ (.slice none 0 0) rfl (cell_new1 rfl) rfl (by omega) (by simp; omega) (w5.heap.size + 1) (by simp) ?_)
  intro g cap1 wa hown hgrow _ _
  obtain ⟨H', O', hb, kc, kz'⟩ := outs_add1 H O o1 (fun p hp => absurd hp List.not_mem_nil) (by omega) hown hgrow
  replace HT : Below w.heap.size w _ := HT.trans (hb.mono (by omega))
  have EN := ends_any _ w1.heap.size T x y xs [] _ _ H' O' Ex.out Ey.out (by omega) (by simp) (by simp)
  clear H' O' H O hown hgrow o1 hb HTL k2 kz
  go_wp2_with fail
  refine EN.mono ?_
  rintro e wz ⟨rfl, hb⟩
  have HZ' : Below w.heap.size w wz := HT.trans (hb.mono (by omega))
  clear EN hb HT
  go_wp2
  go_ret
  exact ⟨rfl, HZ'⟩

set_option maxRecDepth 100000 in
set_option maxHeartbeats 1000000 in
theorem powers_B (a : Option Addr) (na ca : Nat) (xs : List Int) (n : Int) (w : World) (ev fv : Value) (hna : na = xs.length) (hla : na ≤ ca) (hma : na ≤ 1048576) (hra : Reads w a xs) (hx : AllW xs) (hn : 0 ≤ n) (hn1 : n ≤ 9223372036854775807) (hb : 0 < bitsL xs) (hb2 : 131072 / bitsL xs < n) (E : Errs w 0 ev) (F : Errs w 1 fv) :
    Calls Tryd.prog 4 #[.slice a na ca, .int .i64 n] w fun e w' => e = .returned (.bool true) ∧ Below w.heap.size w w' := by
  have HT : Below w.heap.size w w := Below.refl _ _
  have Hna : Hid (na = xs.length) := hna
  clear hna
  have HB : Hid (0 < bitsL xs) := hb
  have HB2 : Hid (131072 / bitsL xs < n) := hb2
  clear hb hb2
  have hbnd := bits_nn xs hx (by have := Hna.out; omega)
  obtain ⟨hbn0, hbn1⟩ := hbnd
  have HBn0 : Hid (0 ≤ bitsL xs) := hbn0
  have HBn1 : Hid (bitsL xs ≤ 64000000000) := hbn1
  clear hbn0 hbn1
  go_enter Tryd.func4, Tryd.ntmps4
  go_wp2_with fail
  refine (awake_any _).mono ?_
  rintro e w1 ⟨rfl, hb⟩
  replace hra := hra.below hb
  replace E := E.below hb
  replace F := F.below hb
  have hs1 := hb.size
  replace HT := bel_tr HT hb
  clear hb
  go_wp2_with fail
  refine (lent_any a none na 0 ca 0 xs [] _ Hna.out rfl hla (Nat.le_refl _) (by omega) (by omega) hra (.inl rfl)).mono ?_
  rintro e w2 ⟨T, x, y, rfl, H, ex, ey, hb⟩
  replace hra := hra.below hb
  replace E := E.below hb
  replace F := F.below hb
  have hs2 := hb.size
  replace HT := bel_tr HT hb
  clear hb
  have HT2 : T + 1 ≤ w2.heap.size := H.lt
  have HTw : w1.heap.size < T := H.lo.1
  have O := Outs.nil w2 T
  have Ex : Hid (x.n = xs.length) := by show _ = _; rw [ex]; exact Hna.out
  have Ey : Hid (y.n = ([] : List Int).length) := by show _ = _; rw [ey]; rfl
  have hxl : xs.length ≤ 1048576 := by have := Hna.out; omega
  clear ex ey
  have k0 := H.c0
  go_wp2_with fail
  refine (lnatG _ x.r x.gf x.cf x.gw x.cw x.n _ _ H.lx).mono ?_
  rintro e w3 ⟨rfl, hb⟩
  replace hra := hra.below hb
  replace E := E.below hb
  replace F := F.below hb
  replace H := H.below hb
  replace O := O.below hb
  have hs3 := hb.size
  replace HT := bel_tr HT hb
  clear hb
  clear k0
  have RX : Hid (x.n = xs.length ∧ x.n ≤ x.cf ∧ Reads w3 (some ⟨x.gf, 0, none⟩) xs) := (LB.own H.lx Ex.out (Nat.le_refl _)).reads
  go_wp2_with fail
  refine (powLong _ x.n x.cf xs n fv _ RX.out.1 RX.out.2.1 (by rw [Ex.out]; omega) RX.out.2.2 hx hn HB.out HB2.out F).mono ?_
  rintro e w4 ⟨rfl, hb⟩
  replace hra := hra.below hb
  replace E := E.below hb
  replace F := F.below hb
  replace H := H.below hb
  replace O := O.below hb
  have hs4 := hb.size
  replace HT := bel_tr HT hb
  clear hb
  clear RX
  have G1 := Got.nil w4 w3.heap.size
  go_wp2_with fail
  refine (rbits_any a na ca xs _ Hna.out hla (by omega) hra hx).mono ?_
  rintro e w5 ⟨rfl, hb⟩
  replace hra := hra.below hb
  replace E := E.below hb
  replace F := F.below hb
  replace H := H.below hb
  replace O := O.below hb
  replace G1 := G1.below hb
  have hs5 := hb.size
  replace HT := bel_tr HT hb
  clear hb
  rw [bits_eq hx]
  have hbt := HB.out
  have hbt2 := HB2.out
  have hb5 := HBn0.out
  have hb6 := HBn1.out
  generalize bitsL xs = bt at *
  have ht : decide (131072 / bt < n) = true := by simpa using hbt2
  have hF := F.1
  go_wp2_with fail
  refine (refusedE _ F).mono ?_
  rintro e wsame ⟨rfl, rfl⟩
  clear hF
  obtain ⟨us1, o1, _, _, z1⟩ := G1
  replace o1 := o1.mono (B' := T + 1) (by omega)
  have k2 := H.c2
  have kz := H.fz
  have kT := H.lt
  have HTL := O.tl
  have HLV : Hid ((([] : List (Value × List Int)).map (·.1)).length = 0) := rfl
  go_wp2_with (at_builtin; refine wpList_appendT1 _ rfl _ _ rfl (T + 1) (.slice none 0 0) (([] : List (Value × List Int)).map (·.1)) 0 HLV rfl (HTL.alloc _) w5.heap.size _ (.slice none 0 0) rfl (cell_new1 rfl) rfl (by omega) (by simp; omega) (w5.heap.size + 1) (by simp) ?_)
  intro g cap1 wa hown hgrow _ _
  obtain ⟨H', O', hb, kc, kz'⟩ := outs_add1 H O o1 (fun p hp => absurd hp List.not_mem_nil) (by omega) hown hgrow
  replace HT : Below w.heap.size w _ := HT.trans (hb.mono (by omega))
  have EN := ends_any _ w1.heap.size T x y xs [] _ _ H' O' Ex.out Ey.out (by omega) (by simp) (by simp)
  clear H' O' H O hown hgrow o1 hb HTL k2 kz
  go_wp2_with fail
  refine EN.mono ?_
  rintro e wz ⟨rfl, hb⟩
  have HZ' : Below w.heap.size w wz := HT.trans (hb.mono (by omega))
  clear EN hb HT
  go_wp2
  go_ret
  exact ⟨rfl, HZ'⟩

set_option maxRecDepth 100000 in
set_option maxHeartbeats 1000000 in
theorem powers_C (a : Option Addr) (na ca : Nat) (xs : List Int) (n : Nat) (w : World) (ev fv : Value) (hna : na = xs.length) (hla : na ≤ ca) (hma : na ≤ 1048576) (hra : Reads w a xs) (hx : AllW xs) (hn : n < 9223372036854775808) (hn0 : 0 < n) (hb : bitsL xs = 0) (E : Errs w 0 ev) (F : Errs w 1 fv) :
    Calls Tryd.prog 4 #[.slice a na ca, .int .i64 n] w fun e w' => e = .returned (.bool true) ∧ Below w.heap.size w w' := by
  have HT : Below w.heap.size w w := Below.refl _ _
  have Hna : Hid (na = xs.length) := hna
  clear hna
  have HB : Hid (bitsL xs = 0) := hb
  clear hb
  have hbnd := bits_nn xs hx (by have := Hna.out; omega)
  obtain ⟨hbn0, hbn1⟩ := hbnd
  have HBn0 : Hid (0 ≤ bitsL xs) := hbn0
  have HBn1 : Hid (bitsL xs ≤ 64000000000) := hbn1
  clear hbn0 hbn1
  go_enter Tryd.func4, Tryd.ntmps4
  go_wp2_with fail
  refine (awake_any _).mono ?_
  rintro e w1 ⟨rfl, hb⟩
  replace hra := hra.below hb
  replace E := E.below hb
  replace F := F.below hb
  have hs1 := hb.size
  replace HT := bel_tr HT hb
  clear hb
  go_wp2_with fail
  refine (lent_any a none na 0 ca 0 xs [] _ Hna.out rfl hla (Nat.le_refl _) (by omega) (by omega) hra (.inl rfl)).mono ?_
  rintro e w2 ⟨T, x, y, rfl, H, ex, ey, hb⟩
  replace hra := hra.below hb
  replace E := E.below hb
  replace F := F.below hb
  have hs2 := hb.size
  replace HT := bel_tr HT hb
  clear hb
  have HT2 : T + 1 ≤ w2.heap.size := H.lt
  have HTw : w1.heap.size < T := H.lo.1
  have O := Outs.nil w2 T
  have Ex : Hid (x.n = xs.length) := by show _ = _; rw [ex]; exact Hna.out
  have Ey : Hid (y.n = ([] : List Int).length) := by show _ = _; rw [ey]; rfl
  have hxl : xs.length ≤ 1048576 := by have := Hna.out; omega
  clear ex ey
  have k0 := H.c0
  go_wp2_with fail
  refine (lnatG _ x.r x.gf x.cf x.gw x.cw x.n _ _ H.lx).mono ?_
  rintro e w3 ⟨rfl, hb⟩
  replace hra := hra.below hb
  replace E := E.below hb
  replace F := F.below hb
  replace H := H.below hb
  replace O := O.below hb
  have hs3 := hb.size
  replace HT := bel_tr HT hb
  clear hb
  clear k0
  have RX : Hid (x.n = xs.length ∧ x.n ≤ x.cf ∧ Reads w3 (some ⟨x.gf, 0, none⟩) xs) := (LB.own H.lx Ex.out (Nat.le_refl _)).reads
  go_wp2_with fail
  refine (powG _ x.n x.cf xs 1048576 n w3 RX.out.1 RX.out.2.1 (by rw [Ex.out]; omega) (by omega) RX.out.2.2 hx hn (fun h => absurd HB.out (by omega))).mono ?_
  rintro e w4 ⟨c1, n1, d1, rfl, G1, hb⟩
  replace hra := hra.below hb
  replace E := E.below hb
  replace F := F.below hb
  replace H := H.below hb
  replace O := O.below hb
  have hs4 := hb.size
  replace HT := bel_tr HT hb
  clear hb
  clear RX
  go_wp2_with fail
  refine (rbits_any a na ca xs _ Hna.out hla (by omega) hra hx).mono ?_
  rintro e w5 ⟨rfl, hb⟩
  replace hra := hra.below hb
  replace E := E.below hb
  replace F := F.below hb
  replace H := H.below hb
  replace O := O.below hb
  replace G1 := G1.below hb
  have hs5 := hb.size
  replace HT := bel_tr HT hb
  clear hb
  rw [bits_eq hx]
  rw [HB.out]
  have HVZ : Hid (val xs ^ n = 0) := by
    show _ = _
    have h1 := val_bits hx
    rw [HB.out] at h1
    have h2 := val_nn hx
    have h3 : val xs = 0 := by simp at h1; omega
    rw [h3]; exact Int.zero_pow (by omega)
  have hnp : (0 : Int) < (n : Int) := by omega
  have GN := Got.nil w5 0
  go_wp2_with fail
  refine (isG _ G1 GN HVZ.out (by omega)).mono ?_
  rintro e w6 ⟨rfl, hb⟩
  replace hra := hra.below hb
  replace E := E.below hb
  replace F := F.below hb
  replace H := H.below hb
  replace O := O.below hb
  replace G1 := G1.below hb
  have hs6 := hb.size
  replace HT := bel_tr HT hb
  clear hb
  clear GN
  obtain ⟨us1, o1, _, _, z1⟩ := G1
  replace o1 := o1.mono (B' := T + 1) (by omega)
  have k2 := H.c2
  have kz := H.fz
  have kT := H.lt
  have HTL := O.tl
  have HLV : Hid ((([] : List (Value × List Int)).map (·.1)).length = 0) := rfl
  go_wp2_with (at_builtin; refine wpList_appendT1 _ rfl _ _ rfl (T + 1) (.slice none 0 0) (([] : List (Value × List Int)).map (·.1)) 0 HLV rfl (HTL.alloc _) w6.heap.size _ (.slice c1 n1 d1) rfl (cell_new1 rfl) rfl (by omega) (by simp; omega) (w6.heap.size + 1) (by simp) ?_)
  intro g cap1 wa hown hgrow _ _
  obtain ⟨H', O', hb, kc, kz'⟩ := outs_add1 H O o1 (fun p hp => absurd hp List.not_mem_nil) (by omega) hown hgrow
  replace HT : Below w.heap.size w _ := HT.trans (hb.mono (by omega))
  have EN := ends_any _ w1.heap.size T x y xs [] _ _ H' O' Ex.out Ey.out (by omega) (by simp) (by simp)
  clear H' O' H O hown hgrow o1 hb HTL k2 kz
  go_wp2_with fail
  refine EN.mono ?_
  rintro e wz ⟨rfl, hb⟩
  have HZ' : Below w.heap.size w wz := HT.trans (hb.mono (by omega))
  clear EN hb HT
  go_wp2
  go_ret
  exact ⟨rfl, HZ'⟩

set_option maxRecDepth 100000 in
set_option maxHeartbeats 1000000 in
theorem powers_D (a : Option Addr) (na ca : Nat) (xs : List Int) (n : Nat) (w : World) (ev fv : Value) (hna : na = xs.length) (hla : na ≤ ca) (hma : na ≤ 1048576) (hra : Reads w a xs) (hx : AllW xs) (hn : n < 9223372036854775808) (hb : 0 < bitsL xs → (n : Int) ≤ 131072 / bitsL xs) (hz : 0 < n → 0 < bitsL xs) (E : Errs w 0 ev) (F : Errs w 1 fv) :
    Calls Tryd.prog 4 #[.slice a na ca, .int .i64 n] w fun e w' => e = .returned (.bool true) ∧ Below w.heap.size w w' := by
  have HT : Below w.heap.size w w := Below.refl _ _
  have Hna : Hid (na = xs.length) := hna
  clear hna
  have HB : Hid (0 < bitsL xs → (n : Int) ≤ 131072 / bitsL xs) := hb
  clear hb
  have HZ : Hid (0 < n → 0 < bitsL xs) := hz
  clear hz
  have hbnd := bits_nn xs hx (by have := Hna.out; omega)
  obtain ⟨hbn0, hbn1⟩ := hbnd
  have HBn0 : Hid (0 ≤ bitsL xs) := hbn0
  have HBn1 : Hid (bitsL xs ≤ 64000000000) := hbn1
  clear hbn0 hbn1
  go_enter Tryd.func4, Tryd.ntmps4
  go_wp2_with fail
  refine (awake_any _).mono ?_
  rintro e w1 ⟨rfl, hb⟩
  replace hra := hra.below hb
  replace E := E.below hb
  replace F := F.below hb
  have hs1 := hb.size
  replace HT := bel_tr HT hb
  clear hb
  go_wp2_with fail
  refine (lent_any a none na 0 ca 0 xs [] _ Hna.out rfl hla (Nat.le_refl _) (by omega) (by omega) hra (.inl rfl)).mono ?_
  rintro e w2 ⟨T, x, y, rfl, H, ex, ey, hb⟩
  replace hra := hra.below hb
  replace E := E.below hb
  replace F := F.below hb
  have hs2 := hb.size
  replace HT := bel_tr HT hb
  clear hb
  have HT2 : T + 1 ≤ w2.heap.size := H.lt
  have HTw : w1.heap.size < T := H.lo.1
  have O := Outs.nil w2 T
  have Ex : Hid (x.n = xs.length) := by show _ = _; rw [ex]; exact Hna.out
  have Ey : Hid (y.n = ([] : List Int).length) := by show _ = _; rw [ey]; rfl
  have hxl : xs.length ≤ 1048576 := by have := Hna.out; omega
  clear ex ey
  have k0 := H.c0
  go_wp2_with fail
  refine (lnatG _ x.r x.gf x.cf x.gw x.cw x.n _ _ H.lx).mono ?_
  rintro e w3 ⟨rfl, hb⟩
  replace hra := hra.below hb
  replace E := E.below hb
  replace F := F.below hb
  replace H := H.below hb
  replace O := O.below hb
  have hs3 := hb.size
  replace HT := bel_tr HT hb
  clear hb
  clear k0
  have RX : Hid (x.n = xs.length ∧ x.n ≤ x.cf ∧ Reads w3 (some ⟨x.gf, 0, none⟩) xs) := (LB.own H.lx Ex.out (Nat.le_refl _)).reads
  go_wp2_with fail
  refine (powG _ x.n x.cf xs 1048576 n w3 RX.out.1 RX.out.2.1 (by rw [Ex.out]; omega) (by omega) RX.out.2.2 hx hn HB.out).mono ?_
  rintro e w4 ⟨c1, n1, d1, rfl, G1, hb⟩
  replace hra := hra.below hb
  replace E := E.below hb
  replace F := F.below hb
  replace H := H.below hb
  replace O := O.below hb
  have hs4 := hb.size
  replace HT := bel_tr HT hb
  clear hb
  clear RX
  go_wp2_with fail
  refine (rbits_any a na ca xs _ Hna.out hla (by omega) hra hx).mono ?_
  rintro e w5 ⟨rfl, hb⟩
  replace hra := hra.below hb
  replace E := E.below hb
  replace F := F.below hb
  replace H := H.below hb
  replace O := O.below hb
  replace G1 := G1.below hb
  have hs5 := hb.size
  replace HT := bel_tr HT hb
  clear hb
  rw [bits_eq hx]
  have hb5 := HBn0.out
  have hb6 := HBn1.out
  have hbq := HB.out
  have hbz := HZ.out
  have HSM : Hid (∀ m, m ≤ n → val xs ^ m < pw 2049) := fun m hm => pow_small hx HB.out HBn0.out hm (Nat.le_refl _)
  have HVP : Hid (0 < n → 1 ≤ val xs) := fun h => by
    have h1 := HZ.out h
    have h2 := val_nn hx
    rcases (by omega : val xs = 0 ∨ 1 ≤ val xs) with h3 | h3
    · have h4 := bitsL_zero hx h3
      omega
    · exact h3
  generalize hbt : bitsL xs = bt at *
  clear hbt
  by_cases hb0 : 0 < bt
  · have hle := hbq hb0
    have ht : decide (131072 / bt < (n : Int)) = false := by simp; omega
    have ht0 : (bt == 0) = false := by simp; omega
    go_wp2_with fail
    refine (rpowG a na ca xs 1048576 n _ Hna.out hla (by omega) (by omega) hra hx hn HVP.out HSM.out).mono ?_
    rintro e w6 ⟨r1, m1, t1, rfl, R1, hb⟩
    replace hra := hra.below hb
    replace E := E.below hb
    replace F := F.below hb
    replace H := H.below hb
    replace O := O.below hb
    replace G1 := G1.below hb
    have hs6 := hb.size
    replace HT := bel_tr HT hb
    clear hb
    go_wp2_with fail
    refine (isG _ G1 R1 rfl (by omega)).mono ?_
    rintro e w7 ⟨rfl, hb⟩
    replace hra := hra.below hb
    replace E := E.below hb
    replace F := F.below hb
    replace H := H.below hb
    replace O := O.below hb
    replace G1 := G1.below hb
    replace R1 := R1.below hb
    have hs7 := hb.size
    replace HT := bel_tr HT hb
    clear hb
    clear R1
    obtain ⟨us1, o1, _, _, z1⟩ := G1
    replace o1 := o1.mono (B' := T + 1) (by omega)
    have k2 := H.c2
    have kz := H.fz
    have kT := H.lt
    have HTL := O.tl
    have HLV : Hid ((([] : List (Value × List Int)).map (·.1)).length = 0) := rfl
    go_wp2_with (at_builtin; refine wpList_appendT1 _ rfl _ _ rfl (T + 1) (.slice none 0 0) (([] : List (Value × List Int)).map (·.1)) 0 HLV rfl (HTL.alloc _) w7.heap.size _ (.slice c1 n1 d1) rfl (cell_new1 rfl) rfl (by omega) (by simp; omega) (w7.heap.size + 1) (by simp) ?_)
    intro g cap1 wa hown hgrow _ _
    obtain ⟨H', O', hb, kc, kz'⟩ := outs_add1 H O o1 (fun p hp => absurd hp List.not_mem_nil) (by omega) hown hgrow
    replace HT : Below w.heap.size w _ := HT.trans (hb.mono (by omega))
    have EN := ends_any _ w1.heap.size T x y xs [] _ _ H' O' Ex.out Ey.out (by omega) (by simp) (by simp)
    clear H' O' H O hown hgrow o1 hb HTL k2 kz
    go_wp2_with fail
    refine EN.mono ?_
    rintro e wz ⟨rfl, hb⟩
    have HZ' : Below w.heap.size w wz := HT.trans (hb.mono (by omega))
    clear EN hb HT
    go_wp2
    go_ret
    exact ⟨rfl, HZ'⟩
  · obtain rfl : bt = 0 := by omega
    have hn0 : ¬ (0 : Int) < (n : Int) := by omega
    go_wp2_with fail
    refine (rpowG a na ca xs 1048576 n _ Hna.out hla (by omega) (by omega) hra hx hn HVP.out HSM.out).mono ?_
    rintro e w6 ⟨r1, m1, t1, rfl, R1, hb⟩
    replace hra := hra.below hb
    replace E := E.below hb
    replace F := F.below hb
    replace H := H.below hb
    replace O := O.below hb
    replace G1 := G1.below hb
    have hs6 := hb.size
    replace HT := bel_tr HT hb
    clear hb
    go_wp2_with fail
    refine (isG _ G1 R1 rfl (by omega)).mono ?_
    rintro e w7 ⟨rfl, hb⟩
    replace hra := hra.below hb
    replace E := E.below hb
    replace F := F.below hb
    replace H := H.below hb
    replace O := O.below hb
    replace G1 := G1.below hb
    replace R1 := R1.below hb
    have hs7 := hb.size
    replace HT := bel_tr HT hb
    clear hb
    clear R1
    obtain ⟨us1, o1, _, _, z1⟩ := G1
    replace o1 := o1.mono (B' := T + 1) (by omega)
    have k2 := H.c2
    have kz := H.fz
    have kT := H.lt
    have HTL := O.tl
    have HLV : Hid ((([] : List (Value × List Int)).map (·.1)).length = 0) := rfl
    go_wp2_with (at_builtin; refine wpList_appendT1 _ rfl _ _ rfl (T + 1) (.slice none 0 0) (([] : List (Value × List Int)).map (·.1)) 0 HLV rfl (HTL.alloc _) w7.heap.size _ (.slice c1 n1 d1) rfl (cell_new1 rfl) rfl (by omega) (by simp; omega) (w7.heap.size + 1) (by simp) ?_)
    intro g cap1 wa hown hgrow _ _
    obtain ⟨H', O', hb, kc, kz'⟩ := outs_add1 H O o1 (fun p hp => absurd hp List.not_mem_nil) (by omega) hown hgrow
    replace HT : Below w.heap.size w _ := HT.trans (hb.mono (by omega))
    have EN := ends_any _ w1.heap.size T x y xs [] _ _ H' O' Ex.out Ey.out (by omega) (by simp) (by simp)
    clear H' O' H O hown hgrow o1 hb HTL k2 kz
    go_wp2_with fail
    refine EN.mono ?_
    rintro e wz ⟨rfl, hb⟩
    have HZ' : Below w.heap.size w wz := HT.trans (hb.mono (by omega))
    clear EN hb HT
    go_wp2
    go_ret
    exact ⟨rfl, HZ'⟩

theorem powers_walk (a : Option Addr) (na ca : Nat) (xs : List Int) (n : Int) (w : World) (ev fv : Value) (hna : na = xs.length) (hla : na ≤ ca) (hma : na ≤ 1048576) (hra : Reads w a xs) (hx : AllW xs) (h2 : n ≤ 9223372036854775807) (E : Errs w 0 ev) (F : Errs w 1 fv) :
    Calls Tryd.prog 4 #[.slice a na ca, .int .i64 n] w fun e w' => e = .returned (.bool true) ∧ Below w.heap.size w w' := by
  by_cases hn : n < 0
  · exact powers_A a na ca xs n w ev fv hna hla hma hra hx hn E F
  · have hb0 := (bits_nn xs hx (by omega)).1
    obtain ⟨m, rfl⟩ := Int.eq_ofNat_of_zero_le (by omega : 0 ≤ n)
    by_cases hb : 0 < bitsL xs
    · by_cases hb2 : 131072 / bitsL xs < (m : Int)
      · exact powers_B a na ca xs m w ev fv hna hla hma hra hx (by omega) h2 hb hb2 E F
      · exact powers_D a na ca xs m w ev fv hna hla hma hra hx (by omega) (fun _ => by omega) (fun _ => hb) E F
    · by_cases hm : 0 < m
      · exact powers_C a na ca xs m w ev fv hna hla hma hra hx (by omega) hm (by omega) E F
      · exact powers_D a na ca xs m w ev fv hna hla hma hra hx (by omega) (fun h => absurd h hb) (fun h => absurd h hm) E F
end Go.Proofs.YtogdpgfccbohnabDoor

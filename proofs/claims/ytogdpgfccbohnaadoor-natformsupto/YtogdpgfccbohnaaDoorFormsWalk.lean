import Derived.Test.YtogdpgfccbohnaaDoorForms
namespace Go.Proofs.YtogdpgfccbohnaaDoor
open Go.RowKit

theorem Lnt.row {w : World} {r gf cf gw cw n : Nat} {xs : List Int} (h : Lnt w r gf cf gw cw n (lendL xs) (lendL xs)) (hn : n = xs.length) : Row w gf cf xs := by
  subst hn
  have := h.rf.take xs.length
  have e : (lendL xs).take xs.length = xs := by unfold lendL; rw [List.take_append_of_le_length (Nat.le_refl _), List.take_length]
  rwa [e] at this
theorem Lnt.rd {w : World} {r gf cf gw cw n : Nat} {xs : List Int} (h : Lnt w r gf cf gw cw n (lendL xs) (lendL xs)) (hn : n = xs.length) : n ≤ cf ∧ Reads w (some ⟨gf, 0, none⟩) xs := by
  have := h.row hn
  exact ⟨by rw [hn]; exact this.le, this.reads⟩
theorem Lnt.own {w : World} {r gf cf gw cw n : Nat} {xs : List Int} (h : Lnt w r gf cf gw cw n (lendL xs) (lendL xs)) (hn : n = xs.length) {B : Nat} (hB : B ≤ gf) : OwnV w B (.slice (some ⟨gf, 0, none⟩) n cf) xs := by
  have := (h.row hn).own hB
  rwa [← hn] at this
theorem norm_own {w : World} {g B : Nat} {xs : List Int} (h : Blk w g (trimL xs)) (hB : B ≤ g) (hm : tlen xs ≤ 1000000000) : OwnV w B (.slice (some ⟨g, 0, none⟩) (tlen xs) (tlen xs)) (trimL xs) := by
  have := h.ownv hB (by rw [length_trimL]; omega) (trimL xs).length (Nat.le_refl _)
  rw [List.take_length, length_trimL] at this
  exact this

set_option maxHeartbeats 400000 in
theorem of2_any (v : Int) (w : World) (h0 : 0 ≤ v) (h1 : v < 18446744073709551616) :
    Calls Tryd.prog 14 #[.int .u64 v] w fun e w' => ∃ a cap, e = .returned (.slice a (tlen [v]) cap) ∧ OwnV w' w.heap.size (.slice a (tlen [v]) cap) (trimL [v]) ∧ Below w.heap.size w w' := by
  by_cases hv : v = 0
  · subst hv
    go_enter Tryd.func14, Tryd.ntmps14
    go_wp2
    go_ret
    exact ⟨none, 0, rfl, OwnV.nil _ _, Below.refl _ _⟩
  · have t1 : (v == 0) = false := by simpa using hv
    go_enter Tryd.func14, Tryd.ntmps14
    go_wp2
    go_ret
    have e1 : tlen [v] = 1 := by simp [tlen, tl, lm, hv]
    have e2 : trimL [v] = [v] := by simp [trimL, e1]
    refine ⟨some ⟨w.heap.size, 0, none⟩, 1, by rw [e1]; rfl, ?_, (Below.refl _ _).alloc (Nat.le_refl _) _⟩
    rw [e1, e2]
    exact (blk_new [v]).ownv (Nat.le_refl _) (by simp) 1 (by simp)

set_option maxHeartbeats 4000000 in
theorem forms_walk (a : Option Addr) (na ca : Nat) (xs : List Int) (x : Int) (w : World) (hna : na = xs.length) (hla : na ≤ ca) (hma : na ≤ 1048576) (hra : Reads w a xs) (hx : AllW xs) (h0 : 0 ≤ x) (h1 : x < 18446744073709551616) :
    Calls Tryd.prog 3 #[.slice a na ca, .int .u64 x] w fun e w' => e = .returned (.bool true) ∧ Below w.heap.size w w' := by
  have Hna : Hid (na = xs.length) := hna
  have hlx := length_lendL xs
  have HLX : (lendL xs).length ≤ 1000000000000 := by omega
  have HT1 : tlen xs ≤ 1000000000 := by have : tlen xs ≤ xs.length := tl_le _ _; omega
  have HT2 : tlen [x] ≤ 1 := tl_le _ _
  have HT : Below w.heap.size w w := Below.refl _ _
  clear hna hlx
  go_enter Tryd.func3, Tryd.ntmps3
  go_wp2_with fail
  refine (awake_any _).mono ?_
  rintro e w1 ⟨rfl, hb⟩
  replace hra := hra.below hb
  have hs1 := hb.size
  replace HT := bel_tr HT hb
  clear hb
  go_wp2_with fail
  refine (lend_any a na ca xs _ Hna.out hla (by omega) hra).mono ?_
  rintro e w2 ⟨gf, cf, gw, cw, rfl, L1, hb⟩
  replace hra := hra.below hb
  have hs2 := hb.size
  replace HT := bel_tr HT hb
  clear hb
  have hr1 : w.heap.size ≤ w1.heap.size := by omega
  generalize w1.heap.size = r1 at *
  have hgf : gf < w2.heap.size := L1.rf.lt
  have hgf1 := L1.lf
  go_wp2_with fail
  refine (rnorm_any a na ca xs _ Hna.out hla (by omega) hra hx).mono ?_
  rintro e w3 ⟨c0, cc0, rfl, OW, hb⟩
  replace hra := hra.below hb
  replace L1 := L1.below hb
  have hs3 := hb.size
  replace HT := bel_tr HT hb
  clear hb
  go_wp2_with fail
  refine (lnat_any _ r1 gf cf gw cw na _ _ L1).mono ?_
  rintro e w4 ⟨rfl, m, hm⟩
  have hb : Below w3.heap.size w3 w4 := by rw [hm]; exact belN (Below.refl _ _) m
  replace hra := hra.below hb
  replace L1 := L1.below hb
  replace OW := OW.below hb
  have hs4 := hb.size
  replace HT := bel_tr HT hb
  clear hb hm m
  go_wp2_with fail
  refine (norm_any _ na cf xs _ Hna.out (L1.rd Hna.out).1 (by omega) (L1.rd Hna.out).2).mono ?_
  rintro e w5 ⟨g1, rfl, bg1, Bg1, hb⟩
  replace hra := hra.below hb
  replace L1 := L1.below hb
  replace OW := OW.below hb
  have hs5 := hb.size
  replace HT := bel_tr HT hb
  clear hb
  have lg1 := Bg1.lt
  have Og1 := norm_own (B := w.heap.size) Bg1 (by omega) HT1
  clear Bg1
  go_wp2_with fail
  refine (lnat_any _ r1 gf cf gw cw na _ _ L1).mono ?_
  rintro e w6 ⟨rfl, m, hm⟩
  have hb : Below w5.heap.size w5 w6 := by rw [hm]; exact belN (Below.refl _ _) m
  replace hra := hra.below hb
  replace L1 := L1.below hb
  replace OW := OW.below hb
  replace Og1 := Og1.below hb
  have hs6 := hb.size
  replace HT := bel_tr HT hb
  clear hb hm m
  go_wp2_with fail
  refine (norm_any _ na cf xs _ Hna.out (L1.rd Hna.out).1 (by omega) (L1.rd Hna.out).2).mono ?_
  rintro e w7 ⟨g2, rfl, bg2, Bg2, hb⟩
  replace hra := hra.below hb
  replace L1 := L1.below hb
  replace OW := OW.below hb
  replace Og1 := Og1.below hb
  have hs7 := hb.size
  replace HT := bel_tr HT hb
  clear hb
  have lg2 := Bg2.lt
  have Og2 := norm_own (B := w.heap.size) Bg2 (by omega) HT1
  clear Bg2
  go_wp2_with fail
  refine (of2_any x _ h0 h1).mono ?_
  rintro e w8 ⟨vo, co, rfl, OO, hb⟩
  replace hra := hra.below hb
  replace L1 := L1.below hb
  replace OW := OW.below hb
  replace Og1 := Og1.below hb
  replace Og2 := Og2.below hb
  have hs8 := hb.size
  replace HT := bel_tr HT hb
  clear hb
  have bo : ∀ q, (Value.slice vo (tlen [x]) co).ownBlock = some q → w7.heap.size ≤ q := fun q hq => (OO.lt q hq).1
  go_wp2_with fail
  refine (lnat_any _ r1 gf cf gw cw na _ _ L1).mono ?_
  rintro e w9 ⟨rfl, m, hm⟩
  have hb : Below w8.heap.size w8 w9 := by rw [hm]; exact belN (Below.refl _ _) m
  replace hra := hra.below hb
  replace L1 := L1.below hb
  replace OW := OW.below hb
  replace Og1 := Og1.below hb
  replace Og2 := Og2.below hb
  replace OO := OO.below hb
  have hs9 := hb.size
  replace HT := bel_tr HT hb
  clear hb hm m
  go_wp2_with fail
  refine (uint64_any _ na cf xs _ Hna.out (L1.rd Hna.out).1 (by omega) (L1.rd Hna.out).2).mono ?_
  rintro e wsame ⟨rfl, rfl⟩
  go_wp2_with fail
  refine (ruint64_any a na ca xs _ Hna.out hla (by omega) hra hx).mono ?_
  rintro e w10 ⟨rfl, hb⟩
  replace hra := hra.below hb
  replace L1 := L1.below hb
  replace OW := OW.below hb
  replace Og1 := Og1.below hb
  replace Og2 := Og2.below hb
  replace OO := OO.below hb
  have hs10 := hb.size
  replace HT := bel_tr HT hb
  clear hb
  go_wp2_with fail
  refine (lnat_any _ r1 gf cf gw cw na _ _ L1).mono ?_
  rintro e w11 ⟨rfl, m, hm⟩
  have hb : Below w10.heap.size w10 w11 := by rw [hm]; exact belN (Below.refl _ _) m
  replace hra := hra.below hb
  replace L1 := L1.below hb
  replace OW := OW.below hb
  replace Og1 := Og1.below hb
  replace Og2 := Og2.below hb
  replace OO := OO.below hb
  have hs11 := hb.size
  replace HT := bel_tr HT hb
  clear hb hm m
  go_wp2_with fail
  refine (bits_any _ na cf xs _ Hna.out (L1.rd Hna.out).1 (by omega) (L1.rd Hna.out).2 hx).mono ?_
  rintro e wsame ⟨rfl, rfl⟩
  go_wp2_with fail
  refine (kept_any _ r1 gf cf gw cw na _ _ L1 HLX rfl).mono ?_
  rintro e w12 ⟨rfl, m, hm⟩
  have hb : Below w11.heap.size w11 w12 := by rw [hm]; exact belN (Below.refl _ _) m
  replace hra := hra.below hb
  replace L1 := L1.below hb
  replace OW := OW.below hb
  replace Og1 := Og1.below hb
  replace Og2 := Og2.below hb
  replace OO := OO.below hb
  have hs12 := hb.size
  replace HT := bel_tr HT hb
  clear hb hm m
  go_wp2_with fail
  refine (same_any _ _ (tlen xs) (tlen xs) (tlen xs) cc0 (trimL xs) (trimL xs) _ (length_trimL xs).symm (length_trimL xs).symm (by omega) Og1.reads.2.2 OW.reads.2.2 rfl).mono ?_
  rintro e w13 ⟨rfl, m, hm⟩
  have hb : Below w12.heap.size w12 w13 := by rw [hm]; exact belN (Below.refl _ _) m
  replace hra := hra.below hb
  replace L1 := L1.below hb
  replace OW := OW.below hb
  replace Og1 := Og1.below hb
  replace Og2 := Og2.below hb
  replace OO := OO.below hb
  have hs13 := hb.size
  replace HT := bel_tr HT hb
  clear hb hm m
  go_wp2_with fail
  refine (same_any _ _ (tlen xs) (tlen xs) (tlen xs) cc0 (trimL xs) (trimL xs) _ (length_trimL xs).symm (length_trimL xs).symm (by omega) Og2.reads.2.2 OW.reads.2.2 rfl).mono ?_
  rintro e w14 ⟨rfl, m, hm⟩
  have hb : Below w13.heap.size w13 w14 := by rw [hm]; exact belN (Below.refl _ _) m
  replace hra := hra.below hb
  replace L1 := L1.below hb
  replace OW := OW.below hb
  replace Og1 := Og1.below hb
  replace Og2 := Og2.below hb
  replace OO := OO.below hb
  have hs14 := hb.size
  replace HT := bel_tr HT hb
  clear hb hm m
  go_wp2_with fail
  refine (rof_any x _ h0 h1).mono ?_
  rintro e w15 ⟨c1, cc1, rfl, OR, hb⟩
  replace hra := hra.below hb
  replace L1 := L1.below hb
  replace OW := OW.below hb
  replace Og1 := Og1.below hb
  replace Og2 := Og2.below hb
  replace OO := OO.below hb
  have hs15 := hb.size
  replace HT := bel_tr HT hb
  clear hb
  go_wp2_with fail
  refine (same_any _ _ (tlen [x]) (tlen [x]) co cc1 (trimL [x]) (trimL [x]) _ (length_trimL [x]).symm (length_trimL [x]).symm (by omega) OO.reads.2.2 OR.reads.2.2 rfl).mono ?_
  rintro e w16 ⟨rfl, m, hm⟩
  have hb : Below w15.heap.size w15 w16 := by rw [hm]; exact belN (Below.refl _ _) m
  replace hra := hra.below hb
  replace L1 := L1.below hb
  replace OW := OW.below hb
  replace Og1 := Og1.below hb
  replace Og2 := Og2.below hb
  replace OO := OO.below hb
  replace OR := OR.below hb
  have hs16 := hb.size
  replace HT := bel_tr HT hb
  clear hb hm m
  have t1 : (uval xs != uval xs) = false := by simp
  have t2 : (ufit xs != ufit xs) = false := by simp
  go_wp2_with fail
  refine (rbits_any a na ca xs _ Hna.out hla (by omega) hra hx).mono ?_
  rintro e w17 ⟨rfl, hb⟩
  replace hra := hra.below hb
  replace L1 := L1.below hb
  replace OW := OW.below hb
  replace Og1 := Og1.below hb
  replace Og2 := Og2.below hb
  replace OO := OO.below hb
  replace OR := OR.below hb
  have hs17 := hb.size
  replace HT := bel_tr HT hb
  clear hb
  rw [bits_eq hx]
  have t3 : (bitsL xs != bitsL xs) = false := by simp
  go_wp2_with fail
  refine (lnat_any _ r1 gf cf gw cw na _ _ L1).mono ?_
  rintro e w18 ⟨rfl, m, hm⟩
  have hb : Below w17.heap.size w17 w18 := by rw [hm]; exact belN (Below.refl _ _) m
  replace hra := hra.below hb
  replace L1 := L1.below hb
  replace OW := OW.below hb
  replace Og1 := Og1.below hb
  replace Og2 := Og2.below hb
  replace OO := OO.below hb
  replace OR := OR.below hb
  have hs18 := hb.size
  replace HT := bel_tr HT hb
  clear hb hm m
  generalize hB : bitsL xs = bb at *
  generalize hU : uval xs = uu at *
  generalize hF : ufit xs = ff at *
  clear hB hU hF
  have OL := L1.own Hna.out (B := w.heap.size) (by omega)
  go_wp2_with fail
  have hTR := trow_new (w := w18) [(Value.slice (some ⟨g1, 0, none⟩) (tlen xs) (tlen xs), trimL xs), (.slice (some ⟨g2, 0, none⟩) (tlen xs) (tlen xs), trimL xs), (.slice vo (tlen [x]) co, trimL [x]), (.slice (some ⟨gf, 0, none⟩) na cf, xs)]
  refine (apart_list w18.heap.size 4 w.heap.size _ _ hTR ?ho ?hd (by simp) ?hl (by simp; omega)).mono ?_
  case ho =>
    intro p hp
    simp only [List.mem_cons, List.not_mem_nil, or_false] at hp
    rcases hp with rfl | rfl | rfl | rfl
    · exact Og1.alloc _
    · exact Og2.alloc _
    · exact (OO.mono (B' := w.heap.size) (by omega)).alloc _
    · exact OL.alloc _
  case hd =>
    simp only [List.pairwise_cons, List.mem_cons, List.not_mem_nil, or_false, forall_eq_or_imp, forall_eq, Value.ownBlock, Option.some.injEq, ne_eq, List.Pairwise.nil, and_true, false_implies, implies_true]
    refine ⟨⟨fun q h => ?_, fun q h e => ?_, fun q h => ?_⟩, ⟨fun q h e => ?_, fun q h => ?_⟩, fun q h => ?_⟩
    · omega
    · have := bo q e; omega
    · omega
    · have := bo q e; omega
    · omega
    · have := bo q h; omega
  case hl =>
    intro p hp
    simp only [List.mem_cons, List.not_mem_nil, or_false] at hp
    have e1 := length_trimL xs
    have e2 := length_trimL [x]
    have e3 := Hna.out
    rcases hp with rfl | rfl | rfl | rfl <;> simp only <;> omega
  rintro e wz ⟨rfl, hb⟩
  have HZ : Below w.heap.size w wz := HT.trans ((((Below.refl _ _).alloc (by omega) _)).trans hb)
  clear hb hTR OL
  go_wp2
  go_ret
  exact ⟨rfl, HZ⟩
end Go.Proofs.YtogdpgfccbohnaaDoor

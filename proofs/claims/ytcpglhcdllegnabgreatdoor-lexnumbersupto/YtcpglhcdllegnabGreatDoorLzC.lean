import Derived.Test.YtcpglhcdllegnabGreatDoorLzB
import Derived.Test.YtcpglhcdllegnabGreatDoorLyEAll
namespace Go.Proofs.YtcpglhcdllegnabGreatDoor
open Go.RowKit Go.Shelf

theorem txtQ_i (k : Int) : txtQ ((k : Int) : Rat) = txtI k := by unfold txtQ; rw [Rat.den_intCast, if_pos rfl, Rat.num_intCast]
theorem tk_at {W : World} {B g i : Nat} {t : Tok} (h : TkAt W B g i t) (hk : t.k = 2) : W.cell? ⟨g, i * 8, none⟩ = some (.int .i64 ((2 : Nat) : Int)) ∧ W.cell? ⟨g, i * 8 + 1, none⟩ = some (.string t.x) ∧ ∃ (f : Bool) (a1 : Option Addr) (n1 k1 : Nat) (a2 : Option Addr) (n2 k2 : Nat), W.cell? ⟨g, i * 8 + 2, none⟩ = some (.bool f) ∧ W.cell? ⟨g, i * 8 + 3, none⟩ = some (.slice a1 n1 k1) ∧ W.cell? ⟨g, i * 8 + 4, none⟩ = some (.slice a2 n2 k2) ∧ GR W B f a1 n1 k1 a2 n2 k2 t.q 3000000 := by
  obtain ⟨h1, h2, h3, h4, h5, f, a1, n1, k1, a2, n2, k2, h6, h7, h8, h9⟩ := h
  rw [hk] at h1
  rcases h9 with ⟨_, h9⟩ | ⟨h9, _⟩
  · exact ⟨h1, h2, f, a1, n1, k1, a2, n2, k2, h6, h7, h8, h9⟩
  · exact absurd hk h9
set_option maxRecDepth 100000 in
set_option maxHeartbeats 8000000 in
theorem numbers_neg {p : Bool} {a : Option Addr} {na ca : Nat} {d : Option Addr} {nd cd : Nat} {r : Rat} (k : Int) (w : World) (hA : TR w p a na ca d nd cd r 1048576) (k0 : -9223372036854775808 ≤ k) (k1 : k < 9223372036854775808) (hk : k < 0) (hT : Tabs w) {ev : Value} (E : Errs w 0 ev) (hg : w.cell? ⟨1, 0, none⟩ = some (.iface 122 (.agg #[.pointer (some ⟨16, 33, none⟩)]))) :
    Calls Tryz.prog 3 #[.agg #[.bool p, .slice a na ca, .slice d nd cd], .int .i64 k] w fun e w' => e = .returned (.bool true) ∧ Below w.heap.size w w' := by
  obtain ⟨K, hK⟩ : ∃ K : Nat, (-(k + 1)).tmod 30 = (K : Int) := ⟨((-(k + 1)).tmod 30).toNat, by rw [Int.toNat_of_nonneg (Int.tmod_nonneg _ (by omega))]⟩
  have hK30 : K < 30 := by have := Int.tmod_lt_of_pos (-(k + 1)) (show (0 : Int) < 30 by omega); omega
  have hk1 : IntKind.i64.wrap (k + 1) = k + 1 := by rw [IntKind.wrap_i64]; omega
  have hk2 : IntKind.i64.wrap (-(k + 1)) = -(k + 1) := by rw [IntKind.wrap_i64]; omega
  have hk3 : IntKind.i64.wrap (K : Int) = (K : Int) := by rw [IntKind.wrap_i64]; omega
  obtain ⟨q, hq⟩ : ∃ q, absR r = q := ⟨_, rfl⟩
  have hnn : 0 ≤ q.num := by rw [← hq]; exact absR_nn r
  obtain ⟨v, hv⟩ : ∃ v : Nat, q.num.natAbs = v := ⟨_, rfl⟩
  have P0 := var3_new w (.bool p) (.slice a na ca) (.slice d nd cd) 27
  have hb := bel_d0 w (.cells #[.bool p, .slice a na ca, .slice d nd cd] 27)
  replace hT := hT.below hb
  replace E := E.below hb
  replace hg := kept_c hb hg
  replace hA := hA.below hb
  go_enter Tryz.func3, Tryz.ntmps3
  go_wp2_with fail
  generalize w.alloc (.cells #[.bool p, .slice a na ca, .slice d nd cd] 27) = W0 at *
  refine (awake5 _ hT E hg).mono ?_
  rintro e w1 ⟨rfl, hx⟩
  replace hT := hT.below hx
  replace hA := hA.below hx
  replace P0 := P0.below hx
  replace hb := bel_tr hb hx
  clear E hg hx
  obtain ⟨p0c0, p0c1, p0c2, p0c3, p0c4, p0c5⟩ := id P0
  go_wp2_with fail
  refine (absD _ hA (by omega) (by omega)).mono ?_
  rw [hq]
  rintro e w2 ⟨f, c, n, ck, c', n', k', rfl, G, hx⟩
  replace hT := hT.below hx
  replace hb := bel_tr hb hx
  clear hA P0 p0c0 p0c1 p0c2 p0c3 p0c4 p0c5 hx
  have hx := bel_d0 w2 (.cells #[.bool f, .slice c n ck, .slice c' n' k'] 27)
  have VX := var3_new w2 (.bool f) (.slice c n ck) (.slice c' n' k') 27
  obtain ⟨LX, LV⟩ := G.bdp
  replace G := G.below hx
  replace hT := hT.below hx
  replace hb := bel_tr hb hx
  clear hx
  obtain ⟨vc0, vc1, vc2, vc3, vc4, vc5⟩ := id VX
  go_wp2_with fail
  generalize w2.alloc (.cells #[.bool f, .slice c n ck, .slice c' n' k'] 27) = W2 at *
  generalize w2.heap.size = X at *
  refine (textD _ G.tr (by omega) (by omega)).mono ?_
  rintro e w3 ⟨rfl, hx⟩
  replace hT := hT.below hx
  replace G := G.below hx
  replace VX := VX.below hx
  replace hb := bel_tr hb hx
  clear vc0 vc1 vc2 vc3 vc4 vc5 hx
  obtain ⟨T, hTe⟩ : ∃ T, txtQ q ++ (⟨#[120, 49]⟩ : ByteArray) = T := ⟨_, rfl⟩
  have hTl : T.data.toList = (txtQ q).data.toList ++ [120, 49] := by rw [← hTe, ByteArray.data_append, Array.toList_append]
  obtain ⟨hts, HS⟩ := scan_txq hnn LX LV hTl
  obtain ⟨tq, htq⟩ : ∃ tq, txtQ q = tq := ⟨_, rfl⟩
  rw [htq] at hTe hts HS ⊢
  have hsum : ¬ 9223372036854775807 < tq.size + 2 := by omega
  have hvl : (txt v).size ≤ 20971521 := by have := txt_bd LX; rw [hv] at this; omega
  clear hTl htq LX LV
  go_wp2_with fail
  refine (HS _ hT).mono ?_
  rintro e w4 ⟨⟨vv, rfl, -, hv2⟩, hx⟩
  obtain ⟨g, cap, rfl, -, ht⟩ := hv2 (List.cons_ne_nil _ _)
  obtain ⟨z0, z1, fA, a1, n1, k1A, a2, n2, k2A, z2, z3, z4, GA⟩ := tk_at (ht 0 _ rfl) rfl
  obtain ⟨y0, y1, -⟩ := ht 1 _ rfl
  simp only [Nat.zero_mul, Nat.zero_add, Nat.one_mul, Nat.reduceAdd] at z0 z1 z2 z3 z4 y0 y1 GA
  replace hT := hT.below hx
  replace G := G.below hx
  replace VX := VX.below hx
  replace hb := bel_tr hb hx
  clear HS hv2 ht hx hTe
  obtain ⟨vc0, vc1, vc2, vc3, vc4, vc5⟩ := id VX
  have HB : ∀ u, Below w4.heap.size w4 u → u.cell? ⟨g, 2, none⟩ = some (.bool fA) ∧ u.cell? ⟨g, 2 + 1, none⟩ = some (.slice a1 n1 k1A) ∧ u.cell? ⟨g, 2 + 2, none⟩ = some (.slice a2 n2 k2A) ∧ u.cell? ⟨X, 0, none⟩ = some (.bool f) ∧ u.cell? ⟨X, 0 + 1, none⟩ = some (.slice c n ck) ∧ u.cell? ⟨X, 0 + 2, none⟩ = some (.slice c' n' k') :=
    fun u h => ⟨kept_c h z2, kept_c h z3, kept_c h z4, kept_c h vc0, kept_c h vc1, kept_c h vc2⟩
  have HSm := fun u (h : Below w4.heap.size w4 u) => refSameP u (GA.1.below h) (GA.2.below h) (G.1.below h) (G.2.below h) (by omega)
  go_wp2_with fail
  go_region_held3 (fun w' => w'.cell? ⟨g, 2, none⟩ = some (.bool fA) ∧ w'.cell? ⟨g, 2 + 1, none⟩ = some (.slice a1 n1 k1A) ∧ w'.cell? ⟨g, 2 + 2, none⟩ = some (.slice a2 n2 k2A) ∧ w'.cell? ⟨X, 0, none⟩ = some (.bool f) ∧ w'.cell? ⟨X, 0 + 1, none⟩ = some (.slice c n ck) ∧ w'.cell? ⟨X, 0 + 2, none⟩ = some (.slice c' n' k'))
    (with_reducible refine HB _ ?_; repeat' (first | with_reducible exact hc1 | with_reducible exact Below.refl _ _ | with_reducible refine bel_dr ?_ | omega))
    ((go_at_call 8; go_fit (HSm _ (by first | exact Below.refl _ _ | exact bel_d1 _)); rintro e w5 ⟨rfl, hb1⟩; have hc1 : Below w4.heap.size w4 w5 := (by first | exact bel_tr (bel_d1 w4) hb1 | exact hb1)))
  replace hT := hT.below hc1
  replace G := G.below hc1
  replace VX := VX.below hc1
  replace hb := bel_tr hb hc1
  clear HB HSm z0 z1 z2 z3 z4 y0 y1 GA vc0 vc1 vc2 vc3 vc4 vc5 hb1 hc1
  go_wp2
  go_loopw [11, 12] (fun x y wr => ∃ (Z : ByteArray) (i : Nat), i ≤ K ∧ x = .string Z ∧ y = .int .i64 i ∧ Hid (Z.data.toList = List.replicate i 48) ∧ wr = w5) (fun _ y _ => K - (intOf y).toNat)
  case atStart => exact ⟨⟨#[]⟩, 0, by omega, rfl, rfl, rfl, rfl⟩
  case round =>
    obtain ⟨Z, i, hi, rfl, rfl, HZ, rfl⟩ := hrel
    have hZs : Z.size = i := by rw [← len_list, HZ.out, List.length_replicate]
    by_cases hlt : i < K
    · have hiI : (i : Int) < (K : Int) := by omega
      have hw1 : IntKind.i64.wrap ((i : Int) + 1) = (i : Int) + 1 := by rw [IntKind.wrap_i64]; omega
      obtain ⟨Y, hY⟩ : ∃ Y, Z ++ (⟨#[48]⟩ : ByteArray) = Y := ⟨_, rfl⟩
      have HY : Hid (Y.data.toList = List.replicate (i + 1) 48) := by
        show _ = _
        rw [← hY, ByteArray.data_append, Array.toList_append, HZ.out, List.replicate_succ']
      have hs2 : ¬ 9223372036854775807 < Z.size + 1 := by omega
      clear HZ G VX hb hT
      go_wp2
      go_roundw
      case rel => exact ⟨Y, i + 1, by omega, rfl, by go_num, HY, by first | rfl | trivial⟩
      case measure => simp [intOf]; omega
    · have hiI : ¬ (i : Int) < (K : Int) := by omega
      obtain rfl : i = K := by omega
      obtain ⟨vc0, vc1, vc2, vc3, vc4, vc5⟩ := id VX
      go_wp2_with fail
      refine (wholeD _ G.1.ti (by omega) (by omega)).mono ?_
      rintro e w6 ⟨fW, cW, nW, kW, cW', nW', kW', rfl, GW, hx⟩
      replace hT := hT.below hx
      replace hb := bel_tr hb hx
      clear vc0 vc1 vc2 vc3 vc4 vc5 VX G hx
      go_wp2_with fail
      refine (textD _ GW.tr (by omega) (by omega)).mono ?_
      rw [txtQ_i, txtI_nn hnn, hv]
      rintro e w7 ⟨rfl, hx⟩
      replace hT := hT.below hx
      replace hb := bel_tr hb hx
      clear GW hx hnn hv hq
      have hw3 : IntKind.i64.wrap (((txt v).size : Int) + (i : Int)) = ((txt v).size : Int) + (i : Int) := by rw [IntKind.wrap_i64]; omega
      by_cases h9 : 9999 < (txt v).size + i
      · have h9I : (9999 : Int) < ((txt v).size : Int) + (i : Int) := by omega
        clear HZ hT
        generalize txt v = Wt at *
        go_wp2
        go_ret
        exact ⟨rfl, hb⟩
      · have h9I : ¬ (9999 : Int) < ((txt v).size : Int) + (i : Int) := by omega
        obtain ⟨l2, c2, HS2⟩ := scan_tz2 (v := v) (K := i) HZ.out (by omega)
        obtain ⟨_, _, u3, u4, _, _⟩ := two_vals (v := v) (K := i) HZ.out (by omega)
        have hpos : 0 < (txt v).size := by rw [← len_list]; exact List.length_pos_iff.2 (txt_ne v)
        have hm : (txt ((txt v).size + i)).size ≤ 22 := by
          have := size_txtI (k := (((txt v).size + i : Nat) : Int)) (by rw [Int.natAbs_natCast]; omega)
          rwa [txtI_nn (by omega), Int.natAbs_natCast] at this
        have HD := fun u => doc_digs (txt v ++ txt v ++ Z) (by omega) u3 (by omega) u
        have HO := fun u => ofD (((txt v).size : Int) + (i : Int)) u (by omega) (by omega)
        have hN : txtQ (((((txt v).size : Int) + (i : Int) : Int)) : Rat) = txt ((txt v).size + i) := by rw [txtQ_i, txtI_nn (by omega)]; congr 1
        unfold tz2 at HS2
        generalize ((rdF (txt v ++ txt v ++ Z) 0 (txt v ++ txt v ++ Z).size : Int) : Rat) = qv at *
        generalize hM : txt ((txt v).size + i) = M at *
        generalize txt v = Wt at *
        obtain ⟨A1, hA1⟩ : ∃ A, Wt ++ (⟨#[46]⟩ : ByteArray) = A := ⟨_, rfl⟩
        obtain ⟨A2, hA2⟩ : ∃ A, A1 ++ Wt = A := ⟨_, rfl⟩
        obtain ⟨A3, hA3⟩ : ∃ A, A2 ++ (⟨#[69, 43]⟩ : ByteArray) = A := ⟨_, rfl⟩
        obtain ⟨A4, hA4⟩ : ∃ A, A3 ++ M = A := ⟨_, rfl⟩
        obtain ⟨B1, hB1⟩ : ∃ A, Wt ++ Wt = A := ⟨_, rfl⟩
        obtain ⟨B2, hB2⟩ : ∃ A, B1 ++ Z = A := ⟨_, rfl⟩
        have zA1 : A1.size = Wt.size + 1 := by rw [← hA1, ByteArray.size_append]; rfl
        have zA2 : A2.size = 2 * Wt.size + 1 := by rw [← hA2, ByteArray.size_append, zA1]; omega
        have zA3 : A3.size = 2 * Wt.size + 3 := by rw [← hA3, ByteArray.size_append, zA2]; rfl
        have zB1 : B1.size = 2 * Wt.size := by rw [← hB1, ByteArray.size_append]; omega
        have s1 : ¬ 9223372036854775807 < Wt.size + 1 := by omega
        have s2 : ¬ 9223372036854775807 < A1.size + Wt.size := by omega
        have s3 : ¬ 9223372036854775807 < A2.size + 2 := by omega
        have s4 : ¬ 9223372036854775807 < A3.size + M.size := by omega
        have s5 : ¬ 9223372036854775807 < Wt.size + Wt.size := by omega
        have s6 : ¬ 9223372036854775807 < B1.size + Z.size := by omega
        rw [hA1, hA2, hA3, hA4] at HS2
        rw [hB1, hB2] at HD
        clear u3 u4 hM HZ zA1 zA2 zA3 zB1 hm hpos
        go_wp2_with fail
        refine (HO _).mono ?_
        rintro e w8 ⟨fO, cO, nO, kO, cO', nO', kO', rfl, GO, hx⟩
        replace hT := hT.below hx
        replace hb := bel_tr hb hx
        clear HO hx
        go_wp2_with fail
        refine (textD _ GO.tr (by omega) (by omega)).mono ?_
        rw [hN]
        rintro e w9 ⟨rfl, hx⟩
        replace hT := hT.below hx
        replace hb := bel_tr hb hx
        clear GO hx hN
        go_wp2_with fail
        refine (HS2 _ hT).mono ?_
        rintro e w10 ⟨⟨vv, rfl, -, hv2⟩, hx⟩
        obtain ⟨g2, cap2, rfl, -, ht⟩ := hv2 (List.cons_ne_nil _ _)
        obtain ⟨z0, z1, fA, a1, n1, k1A, a2, n2, k2A, z2, z3, z4, GA⟩ := tk_at (ht 0 _ rfl) rfl
        simp only [Nat.zero_mul, Nat.zero_add] at z0 z1 z2 z3 z4 GA
        replace hb := bel_tr hb hx
        clear HS2 hv2 ht hx hT z0 z1
        go_wp2_with fail
        refine (HD _).mono ?_
        rintro e w11 ⟨fD, cD, nD, kD, cD', nD', kD', rfl, GD, hx⟩
        replace z2 := kept_c hx z2
        replace z3 := kept_c hx z3
        replace z4 := kept_c hx z4
        replace GA := GA.below hx
        replace hb := bel_tr hb hx
        clear HD hx
        have hx := bel_d0 w11 (.cells #[.bool fD, .slice cD nD kD, .slice cD' nD' kD'] 27)
        have VD := var3_new w11 (.bool fD) (.slice cD nD kD) (.slice cD' nD' kD') 27
        replace z2 := kept_c hx z2
        replace z3 := kept_c hx z3
        replace z4 := kept_c hx z4
        replace GA := GA.below hx
        replace GD := GD.below hx
        replace hb := bel_tr hb hx
        clear hx
        obtain ⟨vc0, vc1, vc2, vc3, vc4, vc5⟩ := id VD
        go_wp2_with fail
        generalize w11.alloc (.cells #[.bool fD, .slice cD nD kD, .slice cD' nD' kD'] 27) = W11 at *
        generalize w11.heap.size = X2 at *
        have HB : ∀ u, Below W11.heap.size W11 u → u.cell? ⟨g2, 2, none⟩ = some (.bool fA) ∧ u.cell? ⟨g2, 2 + 1, none⟩ = some (.slice a1 n1 k1A) ∧ u.cell? ⟨g2, 2 + 2, none⟩ = some (.slice a2 n2 k2A) ∧ u.cell? ⟨X2, 0, none⟩ = some (.bool fD) ∧ u.cell? ⟨X2, 0 + 1, none⟩ = some (.slice cD nD kD) ∧ u.cell? ⟨X2, 0 + 2, none⟩ = some (.slice cD' nD' kD') :=
          fun u h => ⟨kept_c h z2, kept_c h z3, kept_c h z4, kept_c h vc0, kept_c h vc1, kept_c h vc2⟩
        have HSm := fun u (h : Below W11.heap.size W11 u) => refSameP u (GA.1.below h) (GA.2.below h) (GD.1.below h) (GD.2.below h) (by omega)
        go_region_held3 (fun w' => w'.cell? ⟨g2, 2, none⟩ = some (.bool fA) ∧ w'.cell? ⟨g2, 2 + 1, none⟩ = some (.slice a1 n1 k1A) ∧ w'.cell? ⟨g2, 2 + 2, none⟩ = some (.slice a2 n2 k2A) ∧ w'.cell? ⟨X2, 0, none⟩ = some (.bool fD) ∧ w'.cell? ⟨X2, 0 + 1, none⟩ = some (.slice cD nD kD) ∧ w'.cell? ⟨X2, 0 + 2, none⟩ = some (.slice cD' nD' kD'))
          (with_reducible refine HB _ ?_; repeat' (first | with_reducible exact hc1 | with_reducible exact Below.refl _ _ | with_reducible refine bel_dr ?_ | omega))
          ((go_at_call 8; go_fit (HSm _ (by first | exact Below.refl _ _ | exact bel_d1 _)); rintro e w12 ⟨rfl, hb1⟩; have hc1 : Below W11.heap.size W11 w12 := (by first | exact bel_tr (bel_d1 W11) hb1 | exact hb1)))
        replace hb := bel_tr hb hc1
        go_wp2
        go_ret
        exact ⟨rfl, hb⟩
set_option maxRecDepth 100000 in
set_option maxHeartbeats 8000000 in
theorem numbers_pos {p : Bool} {a : Option Addr} {na ca : Nat} {d : Option Addr} {nd cd : Nat} {r : Rat} (k : Int) (w : World) (hA : TR w p a na ca d nd cd r 1048576) (k0 : -9223372036854775808 ≤ k) (k1 : k < 9223372036854775808) (hk : ¬ k < 0) (hT : Tabs w) {ev : Value} (E : Errs w 0 ev) (hg : w.cell? ⟨1, 0, none⟩ = some (.iface 122 (.agg #[.pointer (some ⟨16, 33, none⟩)]))) :
    Calls Tryz.prog 3 #[.agg #[.bool p, .slice a na ca, .slice d nd cd], .int .i64 k] w fun e w' => e = .returned (.bool true) ∧ Below w.heap.size w w' := by
  obtain ⟨K, hK⟩ : ∃ K : Nat, k.tmod 30 = (K : Int) := ⟨(k.tmod 30).toNat, by rw [Int.toNat_of_nonneg (Int.tmod_nonneg _ (by omega))]⟩
  have hK30 : K < 30 := by have := Int.tmod_lt_of_pos k (show (0 : Int) < 30 by omega); omega
  have hk3 : IntKind.i64.wrap (K : Int) = (K : Int) := by rw [IntKind.wrap_i64]; omega
  obtain ⟨q, hq⟩ : ∃ q, absR r = q := ⟨_, rfl⟩
  have hnn : 0 ≤ q.num := by rw [← hq]; exact absR_nn r
  obtain ⟨v, hv⟩ : ∃ v : Nat, q.num.natAbs = v := ⟨_, rfl⟩
  have P0 := var3_new w (.bool p) (.slice a na ca) (.slice d nd cd) 27
  have hb := bel_d0 w (.cells #[.bool p, .slice a na ca, .slice d nd cd] 27)
  replace hT := hT.below hb
  replace E := E.below hb
  replace hg := kept_c hb hg
  replace hA := hA.below hb
  go_enter Tryz.func3, Tryz.ntmps3
  go_wp2_with fail
  generalize w.alloc (.cells #[.bool p, .slice a na ca, .slice d nd cd] 27) = W0 at *
  refine (awake5 _ hT E hg).mono ?_
  rintro e w1 ⟨rfl, hx⟩
  replace hT := hT.below hx
  replace hA := hA.below hx
  replace P0 := P0.below hx
  replace hb := bel_tr hb hx
  clear E hg hx
  obtain ⟨p0c0, p0c1, p0c2, p0c3, p0c4, p0c5⟩ := id P0
  go_wp2_with fail
  refine (absD _ hA (by omega) (by omega)).mono ?_
  rw [hq]
  rintro e w2 ⟨f, c, n, ck, c', n', k', rfl, G, hx⟩
  replace hT := hT.below hx
  replace hb := bel_tr hb hx
  clear hA P0 p0c0 p0c1 p0c2 p0c3 p0c4 p0c5 hx
  have hx := bel_d0 w2 (.cells #[.bool f, .slice c n ck, .slice c' n' k'] 27)
  have VX := var3_new w2 (.bool f) (.slice c n ck) (.slice c' n' k') 27
  obtain ⟨LX, LV⟩ := G.bdp
  replace G := G.below hx
  replace hT := hT.below hx
  replace hb := bel_tr hb hx
  clear hx
  obtain ⟨vc0, vc1, vc2, vc3, vc4, vc5⟩ := id VX
  go_wp2_with fail
  generalize w2.alloc (.cells #[.bool f, .slice c n ck, .slice c' n' k'] 27) = W2 at *
  generalize w2.heap.size = X at *
  refine (textD _ G.tr (by omega) (by omega)).mono ?_
  rintro e w3 ⟨rfl, hx⟩
  replace hT := hT.below hx
  replace G := G.below hx
  replace VX := VX.below hx
  replace hb := bel_tr hb hx
  clear vc0 vc1 vc2 vc3 vc4 vc5 hx
  obtain ⟨T, hTe⟩ : ∃ T, txtQ q ++ (⟨#[120, 49]⟩ : ByteArray) = T := ⟨_, rfl⟩
  have hTl : T.data.toList = (txtQ q).data.toList ++ [120, 49] := by rw [← hTe, ByteArray.data_append, Array.toList_append]
  obtain ⟨hts, HS⟩ := scan_txq hnn LX LV hTl
  obtain ⟨tq, htq⟩ : ∃ tq, txtQ q = tq := ⟨_, rfl⟩
  rw [htq] at hTe hts HS ⊢
  have hsum : ¬ 9223372036854775807 < tq.size + 2 := by omega
  have hvl : (txt v).size ≤ 20971521 := by have := txt_bd LX; rw [hv] at this; omega
  clear hTl htq LX LV
  go_wp2_with fail
  refine (HS _ hT).mono ?_
  rintro e w4 ⟨⟨vv, rfl, -, hv2⟩, hx⟩
  obtain ⟨g, cap, rfl, -, ht⟩ := hv2 (List.cons_ne_nil _ _)
  obtain ⟨z0, z1, fA, a1, n1, k1A, a2, n2, k2A, z2, z3, z4, GA⟩ := tk_at (ht 0 _ rfl) rfl
  obtain ⟨y0, y1, -⟩ := ht 1 _ rfl
  simp only [Nat.zero_mul, Nat.zero_add, Nat.one_mul, Nat.reduceAdd] at z0 z1 z2 z3 z4 y0 y1 GA
  replace hT := hT.below hx
  replace G := G.below hx
  replace VX := VX.below hx
  replace hb := bel_tr hb hx
  clear HS hv2 ht hx hTe
  obtain ⟨vc0, vc1, vc2, vc3, vc4, vc5⟩ := id VX
  have HB : ∀ u, Below w4.heap.size w4 u → u.cell? ⟨g, 2, none⟩ = some (.bool fA) ∧ u.cell? ⟨g, 2 + 1, none⟩ = some (.slice a1 n1 k1A) ∧ u.cell? ⟨g, 2 + 2, none⟩ = some (.slice a2 n2 k2A) ∧ u.cell? ⟨X, 0, none⟩ = some (.bool f) ∧ u.cell? ⟨X, 0 + 1, none⟩ = some (.slice c n ck) ∧ u.cell? ⟨X, 0 + 2, none⟩ = some (.slice c' n' k') :=
    fun u h => ⟨kept_c h z2, kept_c h z3, kept_c h z4, kept_c h vc0, kept_c h vc1, kept_c h vc2⟩
  have HSm := fun u (h : Below w4.heap.size w4 u) => refSameP u (GA.1.below h) (GA.2.below h) (G.1.below h) (G.2.below h) (by omega)
  go_wp2_with fail
  go_region_held3 (fun w' => w'.cell? ⟨g, 2, none⟩ = some (.bool fA) ∧ w'.cell? ⟨g, 2 + 1, none⟩ = some (.slice a1 n1 k1A) ∧ w'.cell? ⟨g, 2 + 2, none⟩ = some (.slice a2 n2 k2A) ∧ w'.cell? ⟨X, 0, none⟩ = some (.bool f) ∧ w'.cell? ⟨X, 0 + 1, none⟩ = some (.slice c n ck) ∧ w'.cell? ⟨X, 0 + 2, none⟩ = some (.slice c' n' k'))
    (with_reducible refine HB _ ?_; repeat' (first | with_reducible exact hc1 | with_reducible exact Below.refl _ _ | with_reducible refine bel_dr ?_ | omega))
    ((go_at_call 8; go_fit (HSm _ (by first | exact Below.refl _ _ | exact bel_d1 _)); rintro e w5 ⟨rfl, hb1⟩; have hc1 : Below w4.heap.size w4 w5 := (by first | exact bel_tr (bel_d1 w4) hb1 | exact hb1)))
  replace hT := hT.below hc1
  replace G := G.below hc1
  replace VX := VX.below hc1
  replace hb := bel_tr hb hc1
  clear HB HSm z0 z1 z2 z3 z4 y0 y1 GA vc0 vc1 vc2 vc3 vc4 vc5 hb1 hc1
  go_wp2
  go_loopw [11, 12] (fun x y wr => ∃ (Z : ByteArray) (i : Nat), i ≤ K ∧ x = .string Z ∧ y = .int .i64 i ∧ Hid (Z.data.toList = List.replicate i 48) ∧ wr = w5) (fun _ y _ => K - (intOf y).toNat)
  case atStart => exact ⟨⟨#[]⟩, 0, by omega, rfl, rfl, rfl, rfl⟩
  case round =>
    obtain ⟨Z, i, hi, rfl, rfl, HZ, rfl⟩ := hrel
    have hZs : Z.size = i := by rw [← len_list, HZ.out, List.length_replicate]
    by_cases hlt : i < K
    · have hiI : (i : Int) < (K : Int) := by omega
      have hw1 : IntKind.i64.wrap ((i : Int) + 1) = (i : Int) + 1 := by rw [IntKind.wrap_i64]; omega
      obtain ⟨Y, hY⟩ : ∃ Y, Z ++ (⟨#[48]⟩ : ByteArray) = Y := ⟨_, rfl⟩
      have HY : Hid (Y.data.toList = List.replicate (i + 1) 48) := by
        show _ = _
        rw [← hY, ByteArray.data_append, Array.toList_append, HZ.out, List.replicate_succ']
      have hs2 : ¬ 9223372036854775807 < Z.size + 1 := by omega
      clear HZ G VX hb hT
      go_wp2
      go_roundw
      case rel => exact ⟨Y, i + 1, by omega, rfl, by go_num, HY, by first | rfl | trivial⟩
      case measure => simp [intOf]; omega
    · have hiI : ¬ (i : Int) < (K : Int) := by omega
      obtain rfl : i = K := by omega
      obtain ⟨vc0, vc1, vc2, vc3, vc4, vc5⟩ := id VX
      go_wp2_with fail
      refine (wholeD _ G.1.ti (by omega) (by omega)).mono ?_
      rintro e w6 ⟨fW, cW, nW, kW, cW', nW', kW', rfl, GW, hx⟩
      replace hT := hT.below hx
      replace hb := bel_tr hb hx
      clear vc0 vc1 vc2 vc3 vc4 vc5 VX G hx
      go_wp2_with fail
      refine (textD _ GW.tr (by omega) (by omega)).mono ?_
      rw [txtQ_i, txtI_nn hnn, hv]
      rintro e w7 ⟨rfl, hx⟩
      replace hT := hT.below hx
      replace hb := bel_tr hb hx
      clear GW hx hnn hv hq
      have hw3 : IntKind.i64.wrap (((txt v).size : Int) + (i : Int)) = ((txt v).size : Int) + (i : Int) := by rw [IntKind.wrap_i64]; omega
      by_cases h9 : 9999 < (txt v).size + i
      · have h9I : (9999 : Int) < ((txt v).size : Int) + (i : Int) := by omega
        clear HZ hT
        generalize txt v = Wt at *
        go_wp2
        go_ret
        exact ⟨rfl, hb⟩
      · have h9I : ¬ (9999 : Int) < ((txt v).size : Int) + (i : Int) := by omega
        obtain ⟨l2, c2, HS2⟩ := scan_tz2 (v := v) (K := i) HZ.out (by omega)
        obtain ⟨_, _, u3, u4, _, _⟩ := two_vals (v := v) (K := i) HZ.out (by omega)
        have hpos : 0 < (txt v).size := by rw [← len_list]; exact List.length_pos_iff.2 (txt_ne v)
        have hm : (txt ((txt v).size + i)).size ≤ 22 := by
          have := size_txtI (k := (((txt v).size + i : Nat) : Int)) (by rw [Int.natAbs_natCast]; omega)
          rwa [txtI_nn (by omega), Int.natAbs_natCast] at this
        have HD := fun u => doc_digs (txt v ++ txt v ++ Z) (by omega) u3 (by omega) u
        have HO := fun u => ofD (((txt v).size : Int) + (i : Int)) u (by omega) (by omega)
        have hN : txtQ (((((txt v).size : Int) + (i : Int) : Int)) : Rat) = txt ((txt v).size + i) := by rw [txtQ_i, txtI_nn (by omega)]; congr 1
        unfold tz2 at HS2
        generalize ((rdF (txt v ++ txt v ++ Z) 0 (txt v ++ txt v ++ Z).size : Int) : Rat) = qv at *
        generalize hM : txt ((txt v).size + i) = M at *
        generalize txt v = Wt at *
        obtain ⟨A1, hA1⟩ : ∃ A, Wt ++ (⟨#[46]⟩ : ByteArray) = A := ⟨_, rfl⟩
        obtain ⟨A2, hA2⟩ : ∃ A, A1 ++ Wt = A := ⟨_, rfl⟩
        obtain ⟨A3, hA3⟩ : ∃ A, A2 ++ (⟨#[69, 43]⟩ : ByteArray) = A := ⟨_, rfl⟩
        obtain ⟨A4, hA4⟩ : ∃ A, A3 ++ M = A := ⟨_, rfl⟩
        obtain ⟨B1, hB1⟩ : ∃ A, Wt ++ Wt = A := ⟨_, rfl⟩
        obtain ⟨B2, hB2⟩ : ∃ A, B1 ++ Z = A := ⟨_, rfl⟩
        have zA1 : A1.size = Wt.size + 1 := by rw [← hA1, ByteArray.size_append]; rfl
        have zA2 : A2.size = 2 * Wt.size + 1 := by rw [← hA2, ByteArray.size_append, zA1]; omega
        have zA3 : A3.size = 2 * Wt.size + 3 := by rw [← hA3, ByteArray.size_append, zA2]; rfl
        have zB1 : B1.size = 2 * Wt.size := by rw [← hB1, ByteArray.size_append]; omega
        have s1 : ¬ 9223372036854775807 < Wt.size + 1 := by omega
        have s2 : ¬ 9223372036854775807 < A1.size + Wt.size := by omega
        have s3 : ¬ 9223372036854775807 < A2.size + 2 := by omega
        have s4 : ¬ 9223372036854775807 < A3.size + M.size := by omega
        have s5 : ¬ 9223372036854775807 < Wt.size + Wt.size := by omega
        have s6 : ¬ 9223372036854775807 < B1.size + Z.size := by omega
        rw [hA1, hA2, hA3, hA4] at HS2
        rw [hB1, hB2] at HD
        clear u3 u4 hM HZ zA1 zA2 zA3 zB1 hm hpos
        go_wp2_with fail
        refine (HO _).mono ?_
        rintro e w8 ⟨fO, cO, nO, kO, cO', nO', kO', rfl, GO, hx⟩
        replace hT := hT.below hx
        replace hb := bel_tr hb hx
        clear HO hx
        go_wp2_with fail
        refine (textD _ GO.tr (by omega) (by omega)).mono ?_
        rw [hN]
        rintro e w9 ⟨rfl, hx⟩
        replace hT := hT.below hx
        replace hb := bel_tr hb hx
        clear GO hx hN
        go_wp2_with fail
        refine (HS2 _ hT).mono ?_
        rintro e w10 ⟨⟨vv, rfl, -, hv2⟩, hx⟩
        obtain ⟨g2, cap2, rfl, -, ht⟩ := hv2 (List.cons_ne_nil _ _)
        obtain ⟨z0, z1, fA, a1, n1, k1A, a2, n2, k2A, z2, z3, z4, GA⟩ := tk_at (ht 0 _ rfl) rfl
        simp only [Nat.zero_mul, Nat.zero_add] at z0 z1 z2 z3 z4 GA
        replace hb := bel_tr hb hx
        clear HS2 hv2 ht hx hT z0 z1
        go_wp2_with fail
        refine (HD _).mono ?_
        rintro e w11 ⟨fD, cD, nD, kD, cD', nD', kD', rfl, GD, hx⟩
        replace z2 := kept_c hx z2
        replace z3 := kept_c hx z3
        replace z4 := kept_c hx z4
        replace GA := GA.below hx
        replace hb := bel_tr hb hx
        clear HD hx
        have hx := bel_d0 w11 (.cells #[.bool fD, .slice cD nD kD, .slice cD' nD' kD'] 27)
        have VD := var3_new w11 (.bool fD) (.slice cD nD kD) (.slice cD' nD' kD') 27
        replace z2 := kept_c hx z2
        replace z3 := kept_c hx z3
        replace z4 := kept_c hx z4
        replace GA := GA.below hx
        replace GD := GD.below hx
        replace hb := bel_tr hb hx
        clear hx
        obtain ⟨vc0, vc1, vc2, vc3, vc4, vc5⟩ := id VD
        go_wp2_with fail
        generalize w11.alloc (.cells #[.bool fD, .slice cD nD kD, .slice cD' nD' kD'] 27) = W11 at *
        generalize w11.heap.size = X2 at *
        have HB : ∀ u, Below W11.heap.size W11 u → u.cell? ⟨g2, 2, none⟩ = some (.bool fA) ∧ u.cell? ⟨g2, 2 + 1, none⟩ = some (.slice a1 n1 k1A) ∧ u.cell? ⟨g2, 2 + 2, none⟩ = some (.slice a2 n2 k2A) ∧ u.cell? ⟨X2, 0, none⟩ = some (.bool fD) ∧ u.cell? ⟨X2, 0 + 1, none⟩ = some (.slice cD nD kD) ∧ u.cell? ⟨X2, 0 + 2, none⟩ = some (.slice cD' nD' kD') :=
          fun u h => ⟨kept_c h z2, kept_c h z3, kept_c h z4, kept_c h vc0, kept_c h vc1, kept_c h vc2⟩
        have HSm := fun u (h : Below W11.heap.size W11 u) => refSameP u (GA.1.below h) (GA.2.below h) (GD.1.below h) (GD.2.below h) (by omega)
        go_region_held3 (fun w' => w'.cell? ⟨g2, 2, none⟩ = some (.bool fA) ∧ w'.cell? ⟨g2, 2 + 1, none⟩ = some (.slice a1 n1 k1A) ∧ w'.cell? ⟨g2, 2 + 2, none⟩ = some (.slice a2 n2 k2A) ∧ w'.cell? ⟨X2, 0, none⟩ = some (.bool fD) ∧ w'.cell? ⟨X2, 0 + 1, none⟩ = some (.slice cD nD kD) ∧ w'.cell? ⟨X2, 0 + 2, none⟩ = some (.slice cD' nD' kD'))
          (with_reducible refine HB _ ?_; repeat' (first | with_reducible exact hc1 | with_reducible exact Below.refl _ _ | with_reducible refine bel_dr ?_ | omega))
          ((go_at_call 8; go_fit (HSm _ (by first | exact Below.refl _ _ | exact bel_d1 _)); rintro e w12 ⟨rfl, hb1⟩; have hc1 : Below W11.heap.size W11 w12 := (by first | exact bel_tr (bel_d1 W11) hb1 | exact hb1)))
        replace hb := bel_tr hb hc1
        go_wp2
        go_ret
        exact ⟨rfl, hb⟩
theorem numbers_walk {p : Bool} {a : Option Addr} {na ca : Nat} {d : Option Addr} {nd cd : Nat} {r : Rat} (k : Int) (w : World) (hA : TR w p a na ca d nd cd r 1048576) (k0 : -9223372036854775808 ≤ k) (k1 : k < 9223372036854775808) (hT : Tabs w) {ev : Value} (E : Errs w 0 ev) (hg : w.cell? ⟨1, 0, none⟩ = some (.iface 122 (.agg #[.pointer (some ⟨16, 33, none⟩)]))) :
    Calls Tryz.prog 3 #[.agg #[.bool p, .slice a na ca, .slice d nd cd], .int .i64 k] w fun e w' => e = .returned (.bool true) ∧ Below w.heap.size w w' := by
  by_cases hk : k < 0
  · exact numbers_neg k w hA k0 k1 hk hT E hg
  · exact numbers_pos k w hA k0 k1 hk hT E hg
end Go.Proofs.YtcpglhcdllegnabGreatDoor

import Derived.Test.YtfelogbfijomiabGreatDoorDivR
import Derived.Test.YtfelogbfijomiabGreatDoorCutRow
import Derived.Test.YtfelogbfijomiabGreatDoorErrs
namespace Go.Proofs.YtfelogbfijomiabGreatDoor
open Go.RowKit

theorem tlen_top {ys : List Int} {m : Nat} (hy : AllW ys) (h : tlen ys = m + 1) : 0 < lm ys m := by
  have h1 := (hy.at m).1
  have h2 := (tl_spec ys ys.length).2 (by unfold tlen at h; omega)
  unfold tlen at h
  rw [h] at h2
  simp at h2
  omega

set_option maxHeartbeats 1000000 in
/-- By nought: refused. -/
theorem divE {a b : Option Addr} {na nb ca cb : Nat} {x : Int} {S R : Nat} {ev : Value} (w : World) (ha : Num w a na ca x S) (hb : Num w b nb cb 0 R) (hS : S ≤ 10000000) (hR : R ≤ 10000000) (E : Errs w 1 ev) :
    Calls Tryz.prog 73 #[.slice a na ca, .slice b nb cb] w fun e w' => e = .returned (.tuple #[.slice none 0 0, .slice none 0 0, ev]) ∧ Below w.heap.size w w' := by
  obtain ⟨xs, a1, a2, a3, a4, a5, a6⟩ := ha
  obtain ⟨ys, b1, b2, b3, b4, b5, b6⟩ := hb
  have hE := E.1
  have Ha : Hid (na = xs.length) := a1
  have Hb : Hid (nb = ys.length) := b1
  have Hz : Hid (tlen ys = 0) := (tlen_zero b4).2 b5
  clear a1 b1 a5 b5 E
  go_enter Tryz.func73, Tryz.ntmps73
  go_wp2_with fail
  refine (trim_any a na ca xs w Ha.out a2 (by omega) a3).mono ?_
  rintro e w1 ⟨rfl, rfl⟩
  go_wp2_with fail
  refine (trim_any b nb cb ys w Hb.out b2 (by omega) b3).mono ?_
  rintro e w1 ⟨rfl, rfl⟩
  rw [Hz.out]
  generalize tlen xs = tx at *
  go_wp2
  go_quiet (fail)
  go_wp2
  go_ret3
  exact ⟨rfl, belN (Below.refl _ _) nq⟩

set_option maxHeartbeats 400000 in
theorem ofGx (v : Int) (w : World) (h0 : 0 ≤ v) (h1 : v < 18446744073709551616) :
    Calls Tryz.prog 39 #[.int .u64 v] w fun e w' => ∃ a n cap, e = .returned (.slice a n cap) ∧ Got w' w.heap.size (.slice a n cap) v 1 ∧ Below w.heap.size w w' ∧ (0 < v → n = cap) := by
  rcases (by omega : v = 0 ∨ 0 < v) with h | h
  · subst h
    refine (ofG 0 w h0 h1).mono ?_
    rintro e w' ⟨a, n, cap, rfl, G, hb⟩
    exact ⟨a, n, cap, rfl, G, hb, fun h => by omega⟩
  · have hv : (v == 0) = false := beq_eq_false_iff_ne.2 (by omega)
    have hB : Blk (w.alloc (.cells #[Value.int .u64 v] 49)) w.heap.size [v] := blk_new [v]
    have hW : AllW [v] := fun x hx => by simp at hx; subst hx; exact ⟨h0, h1⟩
    have ht : tlen [v] = 1 := by
      unfold tlen
      show tl [v] (0 + 1) = 1
      unfold tl
      rw [if_neg (by simp [lm]; omega)]
    have hG := got_of_blk (B := w.heap.size) (S := 1) hB hW (Nat.le_refl _) 1 rfl (Nat.le_refl _) (by simp)
    rw [ht, show val [v] = v by simp [val, vS, lm, pw]] at hG
    have hb : Below w.heap.size w (w.alloc (.cells #[Value.int .u64 v] 49)) := (Below.refl _ _).alloc (Nat.le_refl _) _
    clear hB ht
    go_enter Tryz.func39, Tryz.ntmps39
    go_wp2
    go_ret
    exact ⟨_, _, _, rfl, hG, hb, fun _ => rfl⟩

set_option maxRecDepth 100000 in
set_option maxHeartbeats 1000000 in
/-- Quotient and rest. -/
theorem divGx {a b : Option Addr} {na nb ca cb : Nat} {x y : Int} {S R : Nat} (w : World) (ha : Num w a na ca x S) (hb : Num w b nb cb y R) (hS : S ≤ 10000000) (hR : R ≤ 10000000) (hy : 0 < y) :
    Calls Tryz.prog 73 #[.slice a na ca, .slice b nb cb] w fun e w' => ∃ c n cc c' n' cc', e = .returned (.tuple #[.slice c n cc, .slice c' n' cc', .nilIface]) ∧ Got w' w.heap.size (.slice c n cc) (x / y) (S + 1) ∧ Got w' w.heap.size (.slice c' n' cc') (x % y) (S + 1) ∧ (∀ g, (Value.slice c n cc).ownBlock = some g → (Value.slice c' n' cc').ownBlock ≠ some g) ∧ Below w.heap.size w w' ∧ (0 < x % y → n' = cc') := by
  obtain ⟨xs, a1, a2, a3, a4, a5, a6⟩ := ha
  obtain ⟨ys, b1, b2, b3, b4, b5, b6⟩ := hb
  have Ha : Hid (na = xs.length) := a1
  have Hb : Hid (nb = ys.length) := b1
  have ta : tlen xs ≤ xs.length := tl_le _ _
  have tb : tlen ys ≤ ys.length := tl_le _ _
  have hta : tlen xs ≤ S := by omega
  have htb : tlen ys ≤ R := by omega
  have htn : tlen ys ≠ 0 := fun h => by have := (tlen_zero b4).1 h; omega
  have HX : Hid (val (trimL xs) = x) := by show _ = _; rw [val_trimL]; exact a5
  have HY : Hid (val (trimL ys) = y) := by show _ = _; rw [val_trimL]; exact b5
  have HXL : Hid (tlen xs = (trimL xs).length) := (length_trimL xs).symm
  have HYL : Hid ((trimL ys).length = tlen ys) := length_trimL ys
  have hra : Reads w a (trimL xs) := a3.take _
  have hrb : Reads w b (trimL ys) := b3.take _
  have hxw := a4.trim
  have hyw := b4.trim
  have HTOP : Hid (∀ m, tlen ys = m + 1 → 0 < lm (trimL ys) m) := fun m h => by
    rw [lm_trimL (by omega)]; exact tlen_top b4 h
  have HLT : Hid (tlen xs < tlen ys → x < y) := fun h => by
    have h1 := val_lt_tlen a4
    have h2 := val_ge b4 (by omega)
    have h3 := pw_mono (a := tlen xs) (b := tlen ys - 1) (by omega)
    omega
  have hx0 : 0 ≤ x := by rw [← a5]; exact val_nn a4
  go_enter Tryz.func73, Tryz.ntmps73
  clear a1 b1 a5 b5 ta tb
  go_wp2_with fail
  refine (trim_any a na ca xs w Ha.out a2 (by omega) a3).mono ?_
  rintro e w1 ⟨rfl, rfl⟩
  go_wp2_with fail
  refine (trim_any b nb cb ys w Hb.out b2 (by omega) b3).mono ?_
  rintro e w1 ⟨rfl, rfl⟩
  have hcx : tlen xs ≤ ca := by have := Ha.out; have := tl_le xs xs.length; unfold tlen; omega
  obtain ⟨X, hX⟩ : ∃ X, trimL xs = X := ⟨_, rfl⟩
  obtain ⟨Y, hY⟩ : ∃ Y, trimL ys = Y := ⟨_, rfl⟩
  obtain ⟨tx, htx⟩ : ∃ tx, tlen xs = tx := ⟨_, rfl⟩
  obtain ⟨ty, hty⟩ : ∃ ty, tlen ys = ty := ⟨_, rfl⟩
  rw [hX] at HX hra hxw HXL
  rw [hY] at HY hrb hyw HYL HTOP
  rw [htx] at hta HXL HLT hcx
  rw [hty] at htb htn HYL HTOP HLT
  rw [htx, hty]
  clear hX hY htx hty a2 a3 a4 b2 b3 b4 Ha Hb a6 b6
  have hn0 : ((ty : Int) == 0) = false := beq_eq_false_iff_ne.2 (by omega)
  by_cases hlt : tx < ty
  · have hltI : (tx : Int) < (ty : Int) := by omega
    have hq := Int.ediv_eq_zero_of_lt hx0 (HLT.out hlt)
    have hr := Int.emod_eq_of_lt hx0 (HLT.out hlt)
    have HQ : Hid (x / y = 0) := hq
    have HR : Hid (x % y = x) := hr
    clear hq hr
    go_wp2_with fail
    refine (norm_any a tx ca X w HXL.out hcx (by omega) hra).mono ?_
    rintro e w1 ⟨g, rfl, hg, hB, hb⟩
    have hN := got_of_norm (B := w.heap.size) (S := S + 1) hB hxw hg (by rw [← HXL.out]; omega) (by rw [← HXL.out]; omega)
    rw [HX.out, ← HR.out] at hN
    have hQ : Got w1 w.heap.size (.slice none 0 0) (x / y) (S + 1) := by rw [HQ.out]; exact (Got.nil _ _).le (Nat.zero_le _)
    clear hB hra hrb
    go_wp2
    go_ret3
    exact ⟨_, _, _, _, _, _, rfl, hQ, hN, fun g hg => by simp [Value.ownBlock] at hg, hb, fun _ => rfl⟩
  · have hltI : ¬ (tx : Int) < (ty : Int) := by omega
    by_cases h1 : ty = 1
    · subst h1
      obtain ⟨b1, o1, rfl, hc1⟩ := hrb.at (by rw [HYL.out]; omega)
      have hcd := hc1 0 (by rw [HYL.out]; omega)
      obtain ⟨_, d1⟩ := hyw.at 0
      have d0 := HTOP.out 0 rfl
      have HD : Hid (lm Y 0 = y) := by
        show _ = _
        rw [← HY.out]
        unfold val
        rw [HYL.out]
        simp [vS, pw]
      obtain ⟨d, hd⟩ : ∃ d, lm Y 0 = d := ⟨_, rfl⟩
      rw [hd] at hcd d0 d1
      have HDY : Hid (d = y) := by rw [← hd]; exact HD
      rw [Nat.add_zero] at hcd
      clear hd hc1
      go_wp2_with fail
      refine (norm_any a tx ca X w HXL.out hcx (by omega) hra).mono ?_
      rintro e w1 ⟨g, rfl, hg, hB, hb⟩
      have hblt := World.block_lt_of_cell? _ _ hcd
      have hcd1 : w1.cell? ⟨b1, o1, none⟩ = some (.int .u64 d) := by rw [hb.cell hblt]; exact hcd
      obtain ⟨Z, hZ⟩ : ∃ Z, trimL X = Z := ⟨_, rfl⟩
      have HZL : Hid (tlen X = Z.length) := by show _ = _; rw [← hZ, length_trimL]
      have HZV : Hid (val Z = x) := by show _ = _; rw [← hZ, val_trimL]; exact HX.out
      have hZw : AllW Z := by rw [← hZ]; exact hxw.trim
      rw [hZ] at hB
      have hzl : tlen X ≤ tx := by have := tl_le X X.length; rw [HXL.out]; exact this
      obtain ⟨zn, hzn⟩ : ∃ zn, tlen X = zn := ⟨_, rfl⟩
      rw [hzn] at HZL hzl
      rw [hzn]
      have HE := cutR_end (d := d) hZw d0
      rw [← HZL.out, HZV.out] at HE
      obtain ⟨e1, e2, e3, e4⟩ := HE
      have hgl := hB.lt
      have hcut := fun w' (h : Blk w' g Z) => cut_any g zn zn Z d w' h (by rw [HZL.out]; exact Nat.le_refl _) (by rw [← HZL.out]; omega) hZw d0 d1
      obtain ⟨U, hU⟩ : ∃ U, (cutR Z zn d zn).1 = U := ⟨_, rfl⟩
      obtain ⟨C, hC⟩ : ∃ C, (cutR Z zn d zn).2 = C := ⟨_, rfl⟩
      rw [hU] at e1 e2 e3
      rw [hC] at e4
      have HUV : Hid (val U = x / y) := by show _ = _; rw [e3, HDY.out]
      have HCV : Hid (C = x % y) := by show _ = _; rw [e4, HDY.out]
      have hC0 : 0 ≤ C := by rw [e4]; exact Int.emod_nonneg _ (by omega)
      have hC1 : C < 18446744073709551616 := by have := Int.emod_lt_of_pos x d0; omega
      have HUL : Hid (U.length = zn) := e2
      have HUW : Hid (AllW U) := e1
      clear hZ hzn hra hrb hcd e1 e2 e3 e4 hxw
      go_wp2_with fail
      refine (hcut w1 hB).mono ?_
      rintro e w2 ⟨rfl, hB2, hO2⟩
      rw [hU] at hB2
      rw [hC]
      have hbel2 : Below w.heap.size w w2 := hb.trans (hO2.below hg)
      have hB2l := hB2.lt
      clear hB hO2 hU hC hcut hcd1 hgl
      go_wp2_with fail
      refine (ofGx C _ hC0 hC1).mono ?_
      rintro e w3 ⟨c3, n3, d3, rfl, G3, hb3, hx3⟩
      have HX3 : Hid (0 < C → n3 = d3) := hx3
      clear hx3
      have hB3 := hB2.below hb3 hB2.lt
      have hd3 : ∀ q, (Value.slice c3 n3 d3).ownBlock = some q → q ≠ g := fun q hq e => by have := (G3.lt q hq).1; omega
      have hbel3 := bel_tr hbel2 hb3
      have G4 := (G3.mono (B' := w.heap.size) hbel2.size).le (S' := S + 1) (by omega)
      rw [HCV.out] at G4
      have HGQ := got_of_blk (B := w.heap.size) hB3 HUW.out hg zn HUL.out.symm (S := S + 1) (by rw [HUL.out]; omega) (by rw [HUL.out]; omega)
      rw [HUV.out] at HGQ
      have hqr : Reads w3 (some ⟨g, 0, none⟩) U := by have := hB3.reads U.length; rwa [List.take_length] at this
      have HXF : Hid (0 < x % y → n3 = d3) := by rw [← HCV.out]; exact HX3.out
      clear hB2 hB3 G3 hb3 hbel2 HCV HUV HX3
      go_wp2_with fail
      refine (trim_any (some ⟨g, 0, none⟩) zn zn U w3 HUL.out.symm (Nat.le_refl _) (by omega) hqr).mono ?_
      rintro e wsame ⟨rfl, rfl⟩
      clear hqr
      go_wp2
      go_ret3
      exact ⟨_, _, _, _, _, _, rfl, HGQ, G4, fun q hq e => by simp [Value.ownBlock] at hq; exact hd3 q e hq.symm, hbel3, HXF.out⟩
    · have hn1 : ((ty : Int) == 1) = false := beq_eq_false_iff_ne.2 (by omega)
      obtain ⟨m, hm⟩ : ∃ m, ty = m + 2 := ⟨ty - 2, by omega⟩
      have HDV := divide_ex a tx ca X b ty cb m Y w HXL.out hra hxw (by omega) hm (by rw [HYL.out]; exact hm) hrb hyw (HTOP.out (m + 1) hm) (by omega)
      rw [HX.out, HY.out] at HDV
      clear hra hrb hm
      go_wp2_with fail
      refine HDV.mono ?_
      rintro e w1 ⟨c, n, cc, c', n', cc', rfl, G1, G2, hdis, hb, hcc⟩
      clear HDV
      have HCC : Hid (n' = cc') := hcc
      clear hcc
      replace G1 := G1.le (S' := S + 1) (by omega)
      replace G2 := G2.le (S' := S + 1) (by omega)
      go_wp2
      go_ret3
      exact ⟨_, _, _, _, _, _, rfl, G1, G2, hdis, hb, fun _ => HCC.out⟩
theorem divG {a b : Option Addr} {na nb ca cb : Nat} {x y : Int} {S R : Nat} (w : World) (ha : Num w a na ca x S) (hb : Num w b nb cb y R) (hS : S ≤ 10000000) (hR : R ≤ 10000000) (hy : 0 < y) :
    Calls Tryz.prog 73 #[.slice a na ca, .slice b nb cb] w fun e w' => ∃ c n cc c' n' cc', e = .returned (.tuple #[.slice c n cc, .slice c' n' cc', .nilIface]) ∧ Got w' w.heap.size (.slice c n cc) (x / y) (S + 1) ∧ Got w' w.heap.size (.slice c' n' cc') (x % y) (S + 1) ∧ (∀ g, (Value.slice c n cc).ownBlock = some g → (Value.slice c' n' cc').ownBlock ≠ some g) ∧ Below w.heap.size w w' := by
  refine (divGx w ha hb hS hR hy).mono ?_
  rintro e w' ⟨c, n, cc, c', n', cc', rfl, h1, h2, h3, h4, _⟩
  exact ⟨c, n, cc, c', n', cc', rfl, h1, h2, h3, h4⟩
end Go.Proofs.YtfelogbfijomiabGreatDoor

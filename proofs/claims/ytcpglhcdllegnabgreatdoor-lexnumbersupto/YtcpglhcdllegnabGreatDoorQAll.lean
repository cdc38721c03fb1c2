import Derived.Test.YtcpglhcdllegnabGreatDoorRatAll
import Derived.Test.YtcpglhcdllegnabGreatDoorRefNAll
import Derived.Test.YtcpglhcdllegnabGreatDoorR2All
import Derived.Test.YtcpglhcdllegnabGreatDoorLentAll
import Derived.Test.YtcpglhcdllegnabGreatDoorCsAll
import Derived.Test.YtcpglhcdllegnabGreatDoorR3SM
import Derived.Test.YtcpglhcdllegnabGreatDoorR3S
namespace Go.Proofs.YtcpglhcdllegnabGreatDoor
open Go.RowKit

theorem Num.up {w : World} {a : Option Addr} {n c : Nat} {x : Int} {S R : Nat} (h : Num w a n c x S) (hR : S ≤ R) : Num w a n c x R := by
  obtain ⟨xs, h1, h2, h3, h4, h5, h6⟩ := h
  exact ⟨xs, h1, h2, h3, h4, h5, by omega⟩
theorem Num.below_pw {w : World} {a : Option Addr} {n c : Nat} {x : Int} {S : Nat} (h : Num w a n c x S) : x < pw S := by
  obtain ⟨xs, h1, h2, h3, h4, h5, h6⟩ := h
  have h7 := val_lt h4
  have h8 := pw_mono (show xs.length ≤ S by omega)
  rw [← h5]; omega
theorem TR.le {w : World} {p : Bool} {a : Option Addr} {na ca : Nat} {d : Option Addr} {nd cd : Nat} {r : Rat} {S R : Nat} (h : TR w p a na ca d nd cd r S) (hR : S ≤ R) : TR w p a na ca d nd cd r R := by
  obtain ⟨x, y, h1, h2, h3⟩ := h; exact ⟨x, y, h1.le hR, h2.up hR, h3⟩
theorem Got.tiny {w : World} {B : Nat} {a : Option Addr} {n c : Nat} {x : Int} {S : Nat} (h : Got w B (.slice a n c) x S) : n = 0 ↔ x = 0 := by
  have h1 := h.pos
  omega
/-- the document's one -/
theorem oneD (w : World) :
    Calls Tryz.prog 24 #[] w fun e w' => ∃ c n k, e = .returned (.slice c n k) ∧ Got w' w.heap.size (.slice c n k) 1 1 ∧ Below w.heap.size w w' := by
  go_enter Tryz.func24, Tryz.ntmps24
  go_wp2_with fail
  refine (rofGot 1 _ (by decide) (by decide)).mono ?_
  rintro e w1 ⟨c, n, k, rfl, G, hx⟩
  go_wp2
  go_ret
  exact ⟨c, n, k, rfl, G, hx⟩
theorem gr_zero {w : World} {B : Nat} {c : Option Addr} {n k S : Nat} (h : Got w B (.slice c n k) 1 1) (hS : 1 ≤ S) : GR w B false none 0 0 c n k 0 S := by
  refine ⟨((GI.nil w B).le (by omega)).val ?_, (h.le hS).val ?_⟩
  · rfl
  · rfl
theorem sg_of {x : Int} {G : Nat} {f : Bool} (hG : 0 < G) (hf : f = decide (x < 0)) (hx : x ≠ 0) (hd : G ∣ x.natAbs) : f = decide (ws f ((x.natAbs : Int) / (G : Int)) < 0) := by
  obtain ⟨q, hq⟩ := hd
  have hq0 : 0 < q := by
    rcases Nat.eq_zero_or_pos q with h | h
    · subst h; omega
    · exact h
  have e : (x.natAbs : Int) / (G : Int) = q := by rw [hq, Int.natCast_mul, Int.mul_ediv_cancel_left _ (by omega)]
  rw [e]
  unfold ws
  cases f <;> simp <;> omega
set_option maxHeartbeats 4000000 in
/-- the document's Norm -/
theorem normD {p : Bool} {a : Option Addr} {na ca : Nat} {d : Option Addr} {nd cd : Nat} {r : Rat} {S : Nat} (w : World) (hr : TR w p a na ca d nd cd r S) (hS : S ≤ 7000000) (hS1 : 1 ≤ S) :
    Calls Tryz.prog 15 #[.agg #[.bool p, .slice a na ca, .slice d nd cd]] w fun e w' => ∃ f c n k c' n' k', e = .returned (.agg #[.bool f, .slice c n k, .slice c' n' k']) ∧ GR w' w.heap.size f c n k c' n' k' (r) (S) ∧ Below w.heap.size w w' := by
  obtain ⟨x, y, hx, hy, hxy⟩ := hr
  have HXY : Hid (Rat.divInt x y = r) := hxy
  clear hxy
  have hy0 := hy.nn
  have LX := hx.lt
  have LY := hy.below_pw
  obtain ⟨P0, R0, hb0, hsz⟩ := box_rr w (.bool p) (.slice a na ca) (.slice d nd cd) (.bool false) (.slice none 0 0) (.slice none 0 0) 27
  replace hx := hx.below hb0
  replace hy := hy.below hb0
  go_enter Tryz.func15, Tryz.ntmps15
  go_wp2_with fail
  generalize (w.alloc (.cells #[.bool p, .slice a na ca, .slice d nd cd] 27)).alloc (.cells #[.bool false, .slice none 0 0, .slice none 0 0] 27) = W0 at *
  replace hsz := Nat.le_of_eq hsz.symm
  have hX := hx
  have hY := hy
  clear hx hy
  obtain ⟨p0c0, p0c1, p0c2, p0c3, p0c4, p0c5⟩ := id P0
  refine (rnormR _ hY (by omega)).mono ?_
  rintro e w1 ⟨cd1, nd1, kd1, rfl, Gd, hx⟩
  replace Gd := Gd.mono (B' := w.heap.size + 2) hsz
  clear p0c0 p0c1 p0c2 p0c3 p0c4 p0c5
  replace hX := hX.below hx
  replace hY := hY.below hx
  replace P0 := P0.below hx
  replace R0 := R0.below hx
  replace hb0 := bel_tr hb0 hx
  replace hsz := Nat.le_trans hsz (Below.size hx)
  clear hx
  obtain ⟨p0c0, p0c1, p0c2, p0c3, p0c4, p0c5⟩ := id P0
  clear hY
  go_wp2_with fail
  refine (rnormT _ hX (by omega)).mono ?_
  rintro e w2 ⟨f1, c1, n1, k1, rfl, Kn, hx⟩
  replace Kn := Kn.mono (B' := w.heap.size + 2) hsz
  clear p0c0 p0c1 p0c2 p0c3 p0c4 p0c5
  replace hX := hX.below hx
  replace Gd := Gd.below hx
  replace P0 := P0.below hx
  replace R0 := R0.below hx
  replace hb0 := bel_tr hb0 hx
  replace hsz := Nat.le_trans hsz (Below.size hx)
  clear hx
  clear hX
  have hx := bel_d0 w2 (.cells #[.bool f1, .slice c1 n1 k1] 25)
  replace Gd := Gd.below hx
  replace Kn := Kn.below hx
  replace P0 := P0.below hx
  replace R0 := R0.below hx
  replace hb0 := bel_tr hb0 hx
  replace hsz := Nat.le_trans hsz (Below.size hx)
  have Vn := var2_new w2 (.bool f1) (.slice c1 n1 k1) 25
  clear hx
  obtain ⟨vnc0, vnc1, vnc2, vnc3⟩ := id Vn
  go_wp2_with fail
  generalize w2.alloc (.cells #[.bool f1, .slice c1 n1 k1] 25) = w3 at *
  refine (oneD _).mono ?_
  rintro e w4 ⟨co, no, ko, rfl, Go, hx⟩
  replace Go := Go.mono (B' := w.heap.size + 2) hsz
  clear vnc0 vnc1 vnc2 vnc3
  replace Gd := Gd.below hx
  replace Kn := Kn.below hx
  replace P0 := P0.below hx
  replace R0 := R0.below hx
  replace Vn := Vn.below hx
  replace hb0 := bel_tr hb0 hx
  replace hsz := Nat.le_trans hsz (Below.size hx)
  clear hx
  obtain ⟨vnc0, vnc1, vnc2, vnc3⟩ := id Vn
  have hdz := Gd.tiny
  obtain ⟨a', n', c', e1, Kg⟩ := id Kn
  simp only [Value.agg.injEq, Array.mk.injEq, List.cons.injEq, Value.bool.injEq, Value.slice.injEq, and_true] at e1
  obtain ⟨hf1, rfl, rfl, rfl⟩ := e1
  have hnz := Kg.tiny
  have HF : Hid (f1 = decide (x < 0)) := hf1
  clear hf1
  by_cases hz : y = 0 ∨ x = 0
  · have hr0 : r = 0 := by
      rw [← HXY.out]
      rcases hz with rfl | rfl
      · simp
      · simp
    have hcnd : nd1 = 0 ∨ (nd1 ≠ 0 ∧ n1 = 0) := by
      rcases hz with h | h
      · exact .inl (hdz.2 h)
      · by_cases h2 : nd1 = 0
        · exact .inl h2
        · exact .inr ⟨h2, hnz.2 (by omega)⟩
    clear hz hdz hnz LX LY HXY HF hy0
    subst hr0
    rcases hcnd with rfl | ⟨h1, rfl⟩
    · clear vnc0 vnc1 vnc2 vnc3
      obtain ⟨r0c0, r0c1, r0c2, r0c3, r0c4, r0c5⟩ := id R0
      obtain ⟨V, OO⟩ := R0.set (.bool false) (.slice none 0 0) (.slice co no ko)
      have hw := hb0.trans (OO.below (B := w.heap.size) (by omega))
      have GF := (gr_zero (Go.off OO (by omega)) hS1).mono (B' := w.heap.size) (by omega)
      clear Go Gd Kn Kg Vn P0
      clear R0 OO hb0
      go_wp2
      refine bodyPost_ret (v := .agg #[.bool false, .slice none 0 0, .slice co no ko]) (by simp [results, Tryz.results15, go_sem, V.c0, V.c1, V.c2]) rfl ⟨_, _, _, _, _, _, _, rfl, GF, hw⟩
    · clear vnc0 vnc1 vnc2 vnc3
      obtain ⟨r0c0, r0c1, r0c2, r0c3, r0c4, r0c5⟩ := id R0
      obtain ⟨V, OO⟩ := R0.set (.bool false) (.slice none 0 0) (.slice co no ko)
      have hw := hb0.trans (OO.below (B := w.heap.size) (by omega))
      have GF := (gr_zero (Go.off OO (by omega)) hS1).mono (B' := w.heap.size) (by omega)
      obtain ⟨vnc0, vnc1, vnc2, vnc3⟩ := id Vn
      clear Go Gd Kn Kg Vn P0
      clear R0 OO hb0
      have hcI : ((nd1 : Int) == 0) = false := by simp; omega
      go_wp2
      refine bodyPost_ret (v := .agg #[.bool false, .slice none 0 0, .slice co no ko]) (by simp [results, Tryz.results15, go_sem, V.c0, V.c1, V.c2]) rfl ⟨_, _, _, _, _, _, _, rfl, GF, hw⟩
  · have hy1 : 0 < y := by omega
    have hx1 : x ≠ 0 := fun h => hz (.inr h)
    have hd0 : ¬ nd1 = 0 := fun h => hz (.inl (hdz.1 h))
    have hn0 : ¬ n1 = 0 := fun h => by have := hnz.1 h; omega
    have hdI : ((nd1 : Int) == 0) = false := by simp; omega
    have hnI : ((n1 : Int) == 0) = false := by simp; omega
    clear hz hdz hnz hd0 hn0
    obtain ⟨Y, rfl⟩ := Int.eq_ofNat_of_zero_le hy0
    clear hy0
    have hg0 : 0 < Nat.gcd x.natAbs Y := Nat.gcd_pos_of_pos_right _ (by omega)
    have HN : Hid (r.num = ws f1 ((x.natAbs : Int) / (Nat.gcd x.natAbs Y : Nat))) := by
      show _ = _
      have h := low_num (decide (x < 0)) false (m := x.natAbs) (k := Y) (by omega) hy1
      rw [ws_sign, show ws false (Y : Int) = Y from rfl] at h
      rw [← HXY.out, HF.out, h]; simp
    have HD : Hid ((r.den : Int) = (Y : Int) / (Nat.gcd x.natAbs Y : Nat)) := by
      show _ = _
      have h := low_den (decide (x < 0)) false (m := x.natAbs) (k := Y) (by omega) hy1
      rw [ws_sign, show ws false (Y : Int) = Y from rfl] at h
      rw [← HXY.out, h]; simp
    obtain ⟨G, hG⟩ : ∃ G : Nat, Nat.gcd x.natAbs Y = G := ⟨_, rfl⟩
    have HG : Hid (Nat.gcd x.natAbs Y = G) := hG
    rw [hG] at HN HD hg0
    clear hG
    have LM : (x.natAbs : Int) / (G : Int) < pw S := Int.lt_of_le_of_lt (Int.ediv_le_self _ (by omega)) LX
    have LK : (Y : Int) / (G : Int) < pw S := Int.lt_of_le_of_lt (Int.ediv_le_self _ (by omega)) LY
    clear LX LY
    go_wp2_with fail
    refine (rgcdV _ Kg.num Gd.num (by omega)).mono ?_
    rintro e w5 ⟨cg, ng, kg, rfl, Gg, hx⟩
    replace Gg := Gg.mono (B' := w.heap.size + 2) hsz
    clear vnc0 vnc1 vnc2 vnc3
    replace Gd := Gd.below hx
    replace Kn := Kn.below hx
    replace Go := Go.below hx
    replace Kg := Kg.below hx
    replace P0 := P0.below hx
    replace R0 := R0.below hx
    replace Vn := Vn.below hx
    replace hb0 := bel_tr hb0 hx
    replace hsz := Nat.le_trans hsz (Below.size hx)
    clear hx
    rw [HG.out] at Gg
    obtain ⟨vnc0, vnc1, vnc2, vnc3⟩ := id Vn
    clear hdI hnI
    go_wp2_with fail
    refine (rdivV _ Kg.num Gg.num (by omega) (by omega) (by omega)).mono ?_
    rintro e w6 ⟨cp, np, kp, cp', np', kp', rfl, Gp, -, hx⟩
    replace Gp := Gp.mono (B' := w.heap.size + 2) hsz
    clear vnc0 vnc1 vnc2 vnc3
    replace Gd := Gd.below hx
    replace Kn := Kn.below hx
    replace Go := Go.below hx
    replace Kg := Kg.below hx
    replace Gg := Gg.below hx
    replace P0 := P0.below hx
    replace R0 := R0.below hx
    replace Vn := Vn.below hx
    replace hb0 := bel_tr hb0 hx
    replace hsz := Nat.le_trans hsz (Below.size hx)
    clear hx
    replace Gp := Gp.shrink LM
    obtain ⟨vnc0, vnc1, vnc2, vnc3⟩ := id Vn
    go_wp2_with fail
    refine (rdivV _ Gd.num Gg.num (by omega) (by omega) (by omega)).mono ?_
    rintro e w7 ⟨cq, nq, kq, cq', nq', kq', rfl, Gq, -, hx⟩
    replace Gq := Gq.mono (B' := w.heap.size + 2) hsz
    clear vnc0 vnc1 vnc2 vnc3
    replace Gd := Gd.below hx
    replace Kn := Kn.below hx
    replace Go := Go.below hx
    replace Kg := Kg.below hx
    replace Gg := Gg.below hx
    replace Gp := Gp.below hx
    replace P0 := P0.below hx
    replace R0 := R0.below hx
    replace Vn := Vn.below hx
    replace hb0 := bel_tr hb0 hx
    replace hsz := Nat.le_trans hsz (Below.size hx)
    clear hx
    replace Gq := Gq.shrink LK
    obtain ⟨vnc0, vnc1, vnc2, vnc3⟩ := id Vn
    obtain ⟨r0c0, r0c1, r0c2, r0c3, r0c4, r0c5⟩ := id R0
    obtain ⟨V, OO⟩ := R0.set (.bool f1) (.slice cp np kp) (.slice cq nq kq)
    have hw := hb0.trans (OO.below (B := w.heap.size) (by omega))
    have E1 := agg_gi (f := f1) (Gp.off OO (by omega)) r.num (by rw [HN.out]; exact sg_of hg0 HF.out hx1 (HG.out ▸ Nat.gcd_dvd_left _ _)) (by rw [HN.out]; exact ws_abs (Int.ediv_nonneg (by omega) (by omega)))
    have E2 : Got _ (w.heap.size + 2) (.slice cq nq kq) (r.den : Int) S := (Gq.off OO (by omega)).val HD.out.symm
    clear Gp Gq Gg Gd Kn Kg Go P0 R0 OO hb0 LM LK HN HD HG HF hg0
    go_wp2
    refine bodyPost_ret (v := .agg #[.bool f1, .slice cp np kp, .slice cq nq kq]) (by simp [results, Tryz.results15, go_sem, V.c0, V.c1, V.c2]) rfl ⟨_, _, _, _, _, _, _, rfl, ⟨E1.mono (by omega), E2.mono (by omega)⟩, hw⟩
end Go.Proofs.YtcpglhcdllegnabGreatDoor

namespace Go.Proofs.YtcpglhcdllegnabGreatDoor
open Go.RowKit

theorem Got.offN {w w' : World} {B R : Nat} {v : Value} {x : Int} {S : Nat} (h : Got w B v x S) (ho : Off R w w') (hR : v.ownBlock ≠ some R) : Got w' B v x S := by
  obtain ⟨xs, h1, h2⟩ := h
  refine ⟨xs, ?_, h2⟩
  refine ⟨h1.1, ?_⟩
  rcases h1.2 with hn | ⟨g, cap, cur, e1, e2, hgb, rest⟩
  · exact .inl hn
  · refine .inr ⟨g, cap, cur, e1, e2, (ho.block g (fun e => hR ?_)).trans hgb, rest⟩
    subst e; rw [e1]; rfl
theorem Var3.set2 {w : World} {R : Nat} {u v z : Value} (h : Var3 w R u v z) (u' v' : Value) : Var3 ((w.setCell ⟨R, 0, none⟩ u').setCell ⟨R, 1, none⟩ v') R u' v' z ∧ Off R w ((w.setCell ⟨R, 0, none⟩ u').setCell ⟨R, 1, none⟩ v') := by
  refine ⟨⟨?_, ?_, ?_, ?_, ?_, ?_⟩, ((Off.refl _ _).set 0 u').set 1 v'⟩
  · rw [World.cell?_setCell_other _ _ _ _ (by simp), World.cell?_setCell_same _ _ _ h.c0]
  · rw [World.cell?_setCell_same _ _ _ ((World.cell?_setCell_other _ _ _ _ (by simp)).trans h.c1)]
  · rw [World.cell?_setCell_other _ _ _ _ (by simp), World.cell?_setCell_other _ _ _ _ (by simp)]; exact h.c2
  · rw [World.frozen?_setCell, World.frozen?_setCell]; exact h.f0
  · rw [World.frozen?_setCell, World.frozen?_setCell]; exact h.f1
  · rw [World.frozen?_setCell, World.frozen?_setCell]; exact h.f2
theorem Var3.set0 {w : World} {R : Nat} {u v z : Value} (h : Var3 w R u v z) (u' : Value) : Var3 (w.setCell ⟨R, 0, none⟩ u') R u' v z ∧ Off R w (w.setCell ⟨R, 0, none⟩ u') := by
  refine ⟨⟨?_, ?_, ?_, ?_, ?_, ?_⟩, (Off.refl _ _).set 0 u'⟩
  · rw [World.cell?_setCell_same _ _ _ h.c0]
  · rw [World.cell?_setCell_other _ _ _ _ (by simp)]; exact h.c1
  · rw [World.cell?_setCell_other _ _ _ _ (by simp)]; exact h.c2
  · rw [World.frozen?_setCell]; exact h.f0
  · rw [World.frozen?_setCell]; exact h.f1
  · rw [World.frozen?_setCell]; exact h.f2
theorem dd_lt {a b : Nat} {S R : Nat} (ha : (a : Int) < pw S) (hb : (b : Int) < pw R) : (a : Int) * (b : Int) < pw (S + R) := by
  have h := mul_lt (x := (a : Int)) (y := (b : Int)) (S := S) (R := R) (by simpa using ha) (by simpa using hb)
  rw [Int.natAbs_mul] at h
  simpa using h
theorem Got.below_pw {w : World} {B : Nat} {a : Option Addr} {n c : Nat} {x : Int} {S : Nat} (h : Got w B (.slice a n c) x S) : x < pw S := h.num.below_pw
theorem Got.ti {w : World} {B : Nat} {a : Option Addr} {n c : Nat} {x : Int} {S : Nat} (h : Got w B (.slice a n c) x S) : TI w false a n c x S := ⟨_, h.num, rfl⟩
theorem q_mul (r s : Rat) : Rat.divInt (r.num * s.num) ((r.den : Int) * (s.den : Int)) = r * s := by
  rw [← Rat.divInt_mul_divInt, Rat.num_divInt_den, Rat.num_divInt_den]
theorem q_add (r s : Rat) : Rat.divInt (r.num * s.den + s.num * r.den) ((r.den : Int) * (s.den : Int)) = r + s := by
  rw [← Rat.divInt_add_divInt _ _ (by have := r.den_pos; omega) (by have := s.den_pos; omega), Rat.num_divInt_den, Rat.num_divInt_den]
theorem abs_num (r : Rat) : (absR r).num = (r.num.natAbs : Int) := by
  unfold absR; split
  · rw [Rat.neg_num]; omega
  · omega
set_option maxHeartbeats 4000000 in
/-- the document's Abs -/
theorem absD {p : Bool} {a : Option Addr} {na ca : Nat} {d : Option Addr} {nd cd : Nat} {r : Rat} {S : Nat} (w : World) (hr : TR w p a na ca d nd cd r S) (hS : S ≤ 7000000) (hS1 : 1 ≤ S) :
    Calls Tryz.prog 5 #[.agg #[.bool p, .slice a na ca, .slice d nd cd]] w fun e w' => ∃ f c n k c' n' k', e = .returned (.agg #[.bool f, .slice c n k, .slice c' n' k']) ∧ GR w' w.heap.size f c n k c' n' k' (absR r) (S) ∧ Below w.heap.size w w' := by
  obtain ⟨P0, R0, hb0, hsz⟩ := box_rr w (.bool p) (.slice a na ca) (.slice d nd cd) (.bool false) (.slice none 0 0) (.slice none 0 0) 27
  replace hr := hr.below hb0
  go_enter Tryz.func5, Tryz.ntmps5
  go_wp2_with fail
  generalize (w.alloc (.cells #[.bool p, .slice a na ca, .slice d nd cd] 27)).alloc (.cells #[.bool false, .slice none 0 0, .slice none 0 0] 27) = W0 at *
  replace hsz := Nat.le_of_eq hsz.symm
  obtain ⟨p0c0, p0c1, p0c2, p0c3, p0c4, p0c5⟩ := id P0
  refine (normD _ hr (by omega) hS1).mono ?_
  rintro e w1 ⟨fx, cx, nx, kx, dX, mx, lx, rfl, Gx, hx⟩
  replace Gx := Gx.mono (B' := w.heap.size + 2) hsz
  clear p0c0 p0c1 p0c2 p0c3 p0c4 p0c5
  replace hr := hr.below hx
  replace P0 := P0.below hx
  replace R0 := R0.below hx
  replace hb0 := bel_tr hb0 hx
  replace hsz := Nat.le_trans hsz (Below.size hx)
  clear hx
  clear P0
  clear hr
  have hx := bel_d0 w1 (.cells #[.bool false, .slice cx nx kx, .slice dX mx lx] 27)
  replace Gx := Gx.below hx
  replace R0 := R0.below hx
  replace hb0 := bel_tr hb0 hx
  replace hsz := Nat.le_trans hsz (Below.size hx)
  have Vx := var3_new w1 (.bool false) (.slice cx nx kx) (.slice dX mx lx) 27
  clear hx
  have K2 := Gx.1.parts.2
  have D2 := Gx.2
  obtain ⟨vxc0, vxc1, vxc2, vxc3, vxc4, vxc5⟩ := id Vx
  obtain ⟨r0c0, r0c1, r0c2, r0c3, r0c4, r0c5⟩ := id R0
  obtain ⟨V, OO⟩ := R0.set (.bool false) (.slice cx nx kx) (.slice dX mx lx)
  have hw := hb0.trans (OO.below (B := w.heap.size) (by omega))
  have e1 : (absR r).den = r.den := by unfold absR; split <;> rfl
  have GF : GR _ (w.heap.size + 2) false cx nx kx dX mx lx (absR r) S := ⟨agg_gi (K2.off OO (by omega)) (absR r).num (by symm; rw [decide_eq_false_iff_not, abs_num]; omega) (by rw [abs_num]; omega), (D2.off OO (by omega)).val (by rw [e1])⟩
  clear K2 D2 Gx R0 OO hb0 Vx e1 hsz
  go_wp2
  refine bodyPost_ret (v := .agg #[.bool false, .slice cx nx kx, .slice dX mx lx]) (by simp [results, Tryz.results5, go_sem, V.c0, V.c1, V.c2]) rfl ⟨_, _, _, _, _, _, _, rfl, GF.mono (by omega), hw⟩
end Go.Proofs.YtcpglhcdllegnabGreatDoor

namespace Go.Proofs.YtcpglhcdllegnabGreatDoor
open Go.RowKit

end Go.Proofs.YtcpglhcdllegnabGreatDoor

namespace Go.Proofs.YtcpglhcdllegnabGreatDoor
open Go.RowKit

theorem q_inv (r : Rat) : Rat.divInt (r.den : Int) r.num = r⁻¹ := by
  rw [← Rat.inv_divInt, Rat.num_divInt_den]
theorem num_ne {r : Rat} (h : r ≠ 0) : r.num ≠ 0 := fun e => h (Rat.num_eq_zero.1 e)
end Go.Proofs.YtcpglhcdllegnabGreatDoor

namespace Go.Proofs.YtcpglhcdllegnabGreatDoor
open Go.RowKit

end Go.Proofs.YtcpglhcdllegnabGreatDoor

namespace Go.Proofs.YtcpglhcdllegnabGreatDoor
open Go.RowKit

theorem box_ir (w : World) (u0 v0 u v z : Value) (t t' : TypeId) : Var2 ((w.alloc (.cells #[u0, v0] t')).alloc (.cells #[u, v, z] t)) w.heap.size u0 v0 ∧ Var3 ((w.alloc (.cells #[u0, v0] t')).alloc (.cells #[u, v, z] t)) (w.heap.size + 1) u v z ∧ Below w.heap.size w ((w.alloc (.cells #[u0, v0] t')).alloc (.cells #[u, v, z] t)) ∧ ((w.alloc (.cells #[u0, v0] t')).alloc (.cells #[u, v, z] t)).heap.size = w.heap.size + 2 := by
  have h1 := var2_new w u0 v0 t'
  have h := var3_new (w.alloc (.cells #[u0, v0] t')) u v z t
  rw [World.size_alloc] at h
  exact ⟨h1.alloc _, h, bel_tr (bel_d0 _ _) (bel_d0 _ _), by simp⟩
theorem q_one (x : Int) : ((x : Rat)).num = x ∧ (((x : Rat)).den : Int) = 1 := ⟨Rat.num_intCast x, by rw [Rat.den_intCast]; rfl⟩
set_option maxHeartbeats 4000000 in
/-- the document's Whole -/
theorem wholeD {p : Bool} {a : Option Addr} {na ca : Nat} {x : Int} {S : Nat} (w : World) (hX : TI w p a na ca x S) (hS : S ≤ 7000000) (hS1 : 1 ≤ S) :
    Calls Tryz.prog 9 #[.agg #[.bool p, .slice a na ca]] w fun e w' => ∃ f c n k c' n' k', e = .returned (.agg #[.bool f, .slice c n k, .slice c' n' k']) ∧ GR w' w.heap.size f c n k c' n' k' ((x : Rat)) (S) ∧ Below w.heap.size w w' := by
  obtain ⟨P0, R0, hb0, hsz⟩ := box_ir w (.bool p) (.slice a na ca) (.bool false) (.slice none 0 0) (.slice none 0 0) 27 25
  replace hX := hX.below hb0
  go_enter Tryz.func9, Tryz.ntmps9
  go_wp2_with fail
  generalize (w.alloc (.cells #[.bool p, .slice a na ca] 25)).alloc (.cells #[.bool false, .slice none 0 0, .slice none 0 0] 27) = W0 at *
  replace hsz := Nat.le_of_eq hsz.symm
  obtain ⟨p0c0, p0c1, p0c2, p0c3⟩ := id P0
  refine (rnormT _ hX (by omega)).mono ?_
  rintro e w1 ⟨f1, c1, n1, k1, rfl, K1, hx⟩
  replace K1 := K1.mono (B' := w.heap.size + 2) hsz
  clear p0c0 p0c1 p0c2 p0c3
  replace hX := hX.below hx
  replace P0 := P0.below hx
  replace R0 := R0.below hx
  replace hb0 := bel_tr hb0 hx
  replace hsz := Nat.le_trans hsz (Below.size hx)
  clear hx
  clear hX
  clear P0
  have hx := bel_d0 w1 (.cells #[.bool f1, .slice c1 n1 k1] 25)
  replace K1 := K1.below hx
  replace R0 := R0.below hx
  replace hb0 := bel_tr hb0 hx
  replace hsz := Nat.le_trans hsz (Below.size hx)
  have Vm := var2_new w1 (.bool f1) (.slice c1 n1 k1) 25
  clear hx
  go_wp2_with fail
  generalize w1.alloc (.cells #[.bool f1, .slice c1 n1 k1] 25) = w2 at *
  refine (oneD _).mono ?_
  rintro e w3 ⟨co, no, ko, rfl, Go, hx⟩
  replace Go := Go.mono (B' := w.heap.size + 2) hsz
  replace K1 := K1.below hx
  replace R0 := R0.below hx
  replace Vm := Vm.below hx
  replace hb0 := bel_tr hb0 hx
  replace hsz := Nat.le_trans hsz (Below.size hx)
  clear hx
  obtain ⟨vmc0, vmc1, vmc2, vmc3⟩ := id Vm
  obtain ⟨q1, q2⟩ := q_one x
  clear vmc0 vmc1 vmc2 vmc3
  obtain ⟨r0c0, r0c1, r0c2, r0c3, r0c4, r0c5⟩ := id R0
  obtain ⟨V, OO⟩ := R0.set (.bool f1) (.slice c1 n1 k1) (.slice co no ko)
  have hw := hb0.trans (OO.below (B := w.heap.size) (by omega))
  have GF : GR _ (w.heap.size + 2) f1 c1 n1 k1 co no ko (x : Rat) S := ⟨(K1.off OO (by omega)).val q1.symm, ((Go.off OO (by omega)).le hS1).val q2.symm⟩
  obtain ⟨vmc0, vmc1, vmc2, vmc3⟩ := id Vm
  clear K1 Go q1 q2 Vm
  clear R0 OO hb0
  go_wp2
  refine bodyPost_ret (v := .agg #[.bool f1, .slice c1 n1 k1, .slice co no ko]) (by simp [results, Tryz.results9, go_sem, V.c0, V.c1, V.c2]) rfl ⟨_, _, _, _, _, _, _, rfl, GF.mono (by omega), hw⟩
set_option maxHeartbeats 4000000 in
/-- the document's Of -/
theorem ofD (v : Int) (w : World) (h0 : -9223372036854775808 ≤ v) (h1 : v < 9223372036854775808) :
    Calls Tryz.prog 10 #[.int .i64 v] w fun e w' => ∃ f c n k c' n' k', e = .returned (.agg #[.bool f, .slice c n k, .slice c' n' k']) ∧ GR w' w.heap.size f c n k c' n' k' ((v : Rat)) (1) ∧ Below w.heap.size w w' := by
  have R0 := var3_new w (.bool false) (.slice none 0 0) (.slice none 0 0) 27
  have hb0 := bel_d0 w (.cells #[.bool false, .slice none 0 0, .slice none 0 0] 27)
  have hsz : w.heap.size + 1 ≤ (w.alloc (.cells #[.bool false, .slice none 0 0, .slice none 0 0] 27)).heap.size := by simp
  go_enter Tryz.func10, Tryz.ntmps10
  go_wp2_with fail
  generalize w.alloc (.cells #[.bool false, .slice none 0 0, .slice none 0 0] 27) = W0 at *
  refine (rofI v _ h0 h1).mono ?_
  rintro e w1 ⟨f1, c1, n1, k1, rfl, K1, hx⟩
  replace K1 := K1.mono (B' := w.heap.size + 1) hsz
  replace R0 := R0.below hx
  replace hb0 := bel_tr hb0 hx
  replace hsz := Nat.le_trans hsz (Below.size hx)
  clear hx
  have hx := bel_d0 w1 (.cells #[.bool f1, .slice c1 n1 k1] 25)
  replace K1 := K1.below hx
  replace R0 := R0.below hx
  replace hb0 := bel_tr hb0 hx
  replace hsz := Nat.le_trans hsz (Below.size hx)
  have Vm := var2_new w1 (.bool f1) (.slice c1 n1 k1) 25
  clear hx
  obtain ⟨vmc0, vmc1, vmc2, vmc3⟩ := id Vm
  go_wp2_with fail
  generalize w1.alloc (.cells #[.bool f1, .slice c1 n1 k1] 25) = w2 at *
  refine (wholeD _ K1.ti (by omega) (by omega)).mono ?_
  rintro e w3 ⟨f5, c5, n5, k5, d5, m5, l5, rfl, G5, hx⟩
  replace G5 := G5.mono (B' := w.heap.size + 1) hsz
  clear vmc0 vmc1 vmc2 vmc3
  replace K1 := K1.below hx
  replace R0 := R0.below hx
  replace Vm := Vm.below hx
  replace hb0 := bel_tr hb0 hx
  replace hsz := Nat.le_trans hsz (Below.size hx)
  clear hx
  clear K1
  clear Vm
  obtain ⟨r0c0, r0c1, r0c2, r0c3, r0c4, r0c5⟩ := id R0
  obtain ⟨V, OO⟩ := R0.set (.bool f5) (.slice c5 n5 k5) (.slice d5 m5 l5)
  have hw := hb0.trans (OO.below (B := w.heap.size) (by omega))
  have GF := G5.off OO (by omega)
  clear G5
  clear R0 OO hb0
  go_wp2
  refine bodyPost_ret (v := .agg #[.bool f5, .slice c5 n5 k5, .slice d5 m5 l5]) (by simp [results, Tryz.results10, go_sem, V.c0, V.c1, V.c2]) rfl ⟨_, _, _, _, _, _, _, rfl, GF.mono (by omega), hw⟩
theorem tr_nil (w : World) (S : Nat) : TR w false none 0 0 none 0 0 0 S := ⟨0, 0, ((GI.nil w 0).le (Nat.zero_le S)).ti, ((Got.nil w 0).le (Nat.zero_le S)).num, by simp⟩
end Go.Proofs.YtcpglhcdllegnabGreatDoor

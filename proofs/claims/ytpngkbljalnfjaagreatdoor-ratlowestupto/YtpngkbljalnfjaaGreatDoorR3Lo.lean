import Derived.Test.YtpngkbljalnfjaaGreatDoorR3S
import Derived.Test.YtpngkbljalnfjaaGreatDoorR3SN
import Derived.Test.YtpngkbljalnfjaaGreatDoorR3SM
import Derived.Test.YtpngkbljalnfjaaGreatDoorR3Cm
import Derived.Test.YtpngkbljalnfjaaGreatDoorNbA
namespace Go.Proofs.YtpngkbljalnfjaaGreatDoor
open Go.RowKit

theorem ws_mulr (b : Bool) (m k : Int) : ws b (m * k) = ws b m * k := by unfold ws; cases b <;> simp [Int.neg_mul]
theorem no_div (q : Rat) {d : Int} (hd : 2 ≤ d) (h1 : (q.num.natAbs : Int) % d = 0) (h2 : (q.den : Int) % d = 0) : False := by
  obtain ⟨D, rfl⟩ := Int.eq_ofNat_of_zero_le (by omega : 0 ≤ d)
  have a1 : D ∣ q.num.natAbs := Nat.dvd_of_mod_eq_zero (by omega)
  have a2 : D ∣ q.den := Nat.dvd_of_mod_eq_zero (by omega)
  have a3 := Nat.dvd_gcd a1 a2
  have a4 : Nat.gcd q.num.natAbs q.den = 1 := q.reduced
  rw [a4] at a3
  have := Nat.le_of_dvd (by decide) a3
  omega
theorem textB (t : ByteArray) {p : Bool} {a : Option Addr} {na ca : Nat} {d : Option Addr} {nd cd : Nat} {r : Rat} {S : Nat} (w : World) (hr : TR w p a na ca d nd cd r S) (hS : S ≤ 7000000) (hS1 : 1 ≤ S) (hT : TB w) (ht : t = txtQ r) :
    Calls Tryz.prog 22 #[.agg #[.bool p, .slice a na ca, .slice d nd cd]] w fun e w' => e = .returned (.string t) ∧ Below w.heap.size w w' := by
  rw [ht]; exact textQ w hr hS hS1 hT
set_option maxRecDepth 100000 in
set_option maxHeartbeats 20000000 in
theorem lowest_walk {p1 : Bool} {a1 : Option Addr} {na1 ca1 : Nat} {d1 : Option Addr} {nd1 cd1 : Nat} {p2 : Bool} {a2 : Option Addr} {na2 ca2 : Nat} {d2 : Option Addr} {nd2 cd2 : Nat} {ak ae : Option Addr} {nk ck ne ke : Nat} {x y : Rat} {kk dv : Int} {S : Nat} (w : World) (hA : TR w p1 a1 na1 ca1 d1 nd1 cd1 x S) (hB : TR w p2 a2 na2 ca2 d2 nd2 cd2 y S) (hK : Num w ak nk ck kk S) (hE : Num w ae ne ke dv S) (hS : S ≤ 1100000) (hS1 : 1 ≤ S) (hT : TB w) {ev : Value} (E : Errs w 0 ev) {cv : Int} {tv : ByteArray} (HC : Hid (cv = cs x y)) (HTX : Hid (tv = txtQ x)) :
    Calls Tryz.prog 4 #[.agg #[.bool p1, .slice a1 na1 ca1, .slice d1 nd1 cd1], .agg #[.bool p2, .slice a2 na2 ca2, .slice d2 nd2 cd2], .slice ak nk ck, .slice ae ne ke] w fun e w' => e = .returned (.bool true) ∧ Below w.heap.size w w' := by
  obtain ⟨VA, VB, hb0, hsz⟩ := box_rr w (.bool p1) (.slice a1 na1 ca1) (.slice d1 nd1 cd1) (.bool p2) (.slice a2 na2 ca2) (.slice d2 nd2 cd2) 27
  clear hsz
  obtain ⟨xn, yn, ⟨mn, hM, hmx⟩, hD, hxy⟩ := id hA
  have HX : Hid (Rat.divInt (ws p1 mn) yn = x) := by show _ = _; rw [hmx]; exact hxy
  clear hmx hxy
  replace hA := hA.below hb0
  replace hB := hB.below hb0
  replace hK := hK.below hb0
  replace hE := hE.below hb0
  replace hM := hM.below hb0
  replace hD := hD.below hb0
  replace hT := hT.below hb0
  replace E := E.below hb0
  go_enter Tryz.func4, Tryz.ntmps4
  go_wp2_with fail
  generalize (w.alloc (.cells #[.bool p1, .slice a1 na1 ca1, .slice d1 nd1 cd1] 27)).alloc (.cells #[.bool p2, .slice a2 na2 ca2, .slice d2 nd2 cd2] 27) = W0 at *
  refine (shownQ _ hT E).mono ?_
  rintro e w1 ⟨rfl, hx⟩
  replace hA := hA.below hx
  replace hB := hB.below hx
  replace hK := hK.below hx
  replace hE := hE.below hx
  replace hM := hM.below hx
  replace hD := hD.below hx
  replace hT := hT.below hx
  replace E := E.below hx
  replace VA := VA.below hx
  replace VB := VB.below hx
  replace hb0 := bel_tr hb0 hx
  clear hx
  clear E
  go_wp2_with fail
  refine (bitsN _ hK (by omega)).mono ?_
  rintro e w2 ⟨tk, rfl, htk, hx⟩
  replace hA := hA.below hx
  replace hB := hB.below hx
  replace hK := hK.below hx
  replace hE := hE.below hx
  replace hM := hM.below hx
  replace hD := hD.below hx
  replace hT := hT.below hx
  replace VA := VA.below hx
  replace VB := VB.below hx
  replace hb0 := bel_tr hb0 hx
  clear hx
  obtain ⟨vac0, vac1, vac2, vac3, vac4, vac5⟩ := id VA
  by_cases hk0 : tk = 0
  · subst hk0
    clear vac0 vac1 vac2 vac3 vac4 vac5
    go_wp2
    go_ret
    exact ⟨rfl, hb0⟩
  · have hk1 : 0 < kk := by
      rcases htk with ⟨h, _⟩ | ⟨_, h, _⟩
      · exact absurd h hk0
      · exact Int.lt_of_lt_of_le (by have := Nat.two_pow_pos (tk - 1); omega) h
    clear htk
    have htk0 : ((tk : Int) == 0) = false := by simp; omega
    clear hk0
    go_wp2_with fail
    refine (normR _ hA (by omega) hS1 hT).mono ?_
    rintro e w3 ⟨fx, cx, nx, kx, dx, mx, lx, rfl, Gx, hx⟩
    clear vac0 vac1 vac2 vac3 vac4 vac5
    replace hA := hA.below hx
    replace hB := hB.below hx
    replace hK := hK.below hx
    replace hE := hE.below hx
    replace hM := hM.below hx
    replace hD := hD.below hx
    replace hT := hT.below hx
    replace VA := VA.below hx
    replace VB := VB.below hx
    replace hb0 := bel_tr hb0 hx
    clear hx
    have hx := bel_d0 w3 (.cells #[.bool fx, .slice cx nx kx, .slice dx mx lx] 27)
    replace hA := hA.below hx
    replace hB := hB.below hx
    replace hK := hK.below hx
    replace hE := hE.below hx
    replace hM := hM.below hx
    replace hD := hD.below hx
    replace hT := hT.below hx
    replace Gx := Gx.below hx
    replace VA := VA.below hx
    replace VB := VB.below hx
    replace hb0 := bel_tr hb0 hx
    have Vx := var3_new w3 (.bool fx) (.slice cx nx kx) (.slice dx mx lx) 27
    clear hx
    obtain ⟨vac0, vac1, vac2, vac3, vac4, vac5⟩ := id VA
    go_wp2_with fail
    generalize w3.alloc (.cells #[.bool fx, .slice cx nx kx, .slice dx mx lx] 27) = w4 at *
    clear htk0
    refine (mulG _ hM hK (by omega) (by omega)).mono ?_
    rintro e w5 ⟨cm, nm, km, rfl, Gm, hx⟩
    clear vac0 vac1 vac2 vac3 vac4 vac5
    replace hA := hA.below hx
    replace hB := hB.below hx
    replace hK := hK.below hx
    replace hE := hE.below hx
    replace hM := hM.below hx
    replace hD := hD.below hx
    replace hT := hT.below hx
    replace Gx := Gx.below hx
    replace VA := VA.below hx
    replace VB := VB.below hx
    replace Vx := Vx.below hx
    replace hb0 := bel_tr hb0 hx
    clear hx
    obtain ⟨vac0, vac1, vac2, vac3, vac4, vac5⟩ := id VA
    go_wp2_with fail
    refine (mulG _ hD hK (by omega) (by omega)).mono ?_
    rintro e w6 ⟨ce, ne', ke', rfl, Ge, hx⟩
    clear vac0 vac1 vac2 vac3 vac4 vac5
    replace hA := hA.below hx
    replace hB := hB.below hx
    replace hK := hK.below hx
    replace hE := hE.below hx
    replace hM := hM.below hx
    replace hD := hD.below hx
    replace hT := hT.below hx
    replace Gx := Gx.below hx
    replace Gm := Gm.below hx
    replace VA := VA.below hx
    replace VB := VB.below hx
    replace Vx := Vx.below hx
    replace hb0 := bel_tr hb0 hx
    clear hx
    obtain ⟨vac0, vac1, vac2, vac3, vac4, vac5⟩ := id VA
    have hU : TR w6 p1 cm nm km ce ne' ke' x (S + S) := ⟨_, _, ⟨_, Gm.num, rfl⟩, Ge.num, by rw [ws_mulr, Rat.divInt_mul_right (by omega)]; exact HX.out⟩
    clear Gm
    clear Ge
    clear hM
    clear hD
    clear hK
    go_wp2_with fail
    have hx := bel_d0 w6 (.cells #[.bool p1, .slice cm nm km, .slice ce ne' ke'] 27)
    clear vac0 vac1 vac2 vac3 vac4 vac5
    replace hA := hA.below hx
    replace hB := hB.below hx
    replace hE := hE.below hx
    replace hT := hT.below hx
    replace Gx := Gx.below hx
    replace hU := hU.below hx
    replace VA := VA.below hx
    replace VB := VB.below hx
    replace Vx := Vx.below hx
    replace hb0 := bel_tr hb0 hx
    have Vt := var3_new w6 (.bool p1) (.slice cm nm km) (.slice ce ne' ke') 27
    clear hx
    obtain ⟨vtc0, vtc1, vtc2, vtc3, vtc4, vtc5⟩ := id Vt
    go_wp2_with fail
    generalize w6.alloc (.cells #[.bool p1, .slice cm nm km, .slice ce ne' ke'] 27) = w7 at *
    refine (normR _ hU (by omega) (by omega) hT).mono ?_
    rintro e w8 ⟨fy, cy, ny, ky, dy, my, ly, rfl, Gy, hx⟩
    clear vtc0 vtc1 vtc2 vtc3 vtc4 vtc5
    replace hA := hA.below hx
    replace hB := hB.below hx
    replace hE := hE.below hx
    replace hT := hT.below hx
    replace Gx := Gx.below hx
    replace hU := hU.below hx
    replace VA := VA.below hx
    replace VB := VB.below hx
    replace Vx := Vx.below hx
    replace Vt := Vt.below hx
    replace hb0 := bel_tr hb0 hx
    clear hx
    have hx := bel_d0 w8 (.cells #[.bool fy, .slice cy ny ky, .slice dy my ly] 27)
    replace hA := hA.below hx
    replace hB := hB.below hx
    replace hE := hE.below hx
    replace hT := hT.below hx
    replace Gx := Gx.below hx
    replace hU := hU.below hx
    replace Gy := Gy.below hx
    replace VA := VA.below hx
    replace VB := VB.below hx
    replace Vx := Vx.below hx
    replace Vt := Vt.below hx
    replace hb0 := bel_tr hb0 hx
    have Vy := var3_new w8 (.bool fy) (.slice cy ny ky) (.slice dy my ly) 27
    clear hx
    obtain ⟨vac0, vac1, vac2, vac3, vac4, vac5⟩ := id VA
    obtain ⟨vbc0, vbc1, vbc2, vbc3, vbc4, vbc5⟩ := id VB
    go_wp2_with fail
    generalize w8.alloc (.cells #[.bool fy, .slice cy ny ky, .slice dy my ly] 27) = w9 at *
    refine (addQ _ hA hB (by omega) (by omega) (by omega) hT).mono ?_
    rintro e w10 ⟨fs, cs, ns, ks, ds, ms, ls, rfl, Gs, hx⟩
    clear vac0 vac1 vac2 vac3 vac4 vac5 vbc0 vbc1 vbc2 vbc3 vbc4 vbc5
    replace hA := hA.below hx
    replace hB := hB.below hx
    replace hE := hE.below hx
    replace hT := hT.below hx
    replace Gx := Gx.below hx
    replace hU := hU.below hx
    replace Gy := Gy.below hx
    replace VA := VA.below hx
    replace VB := VB.below hx
    replace Vx := Vx.below hx
    replace Vt := Vt.below hx
    replace Vy := Vy.below hx
    replace hb0 := bel_tr hb0 hx
    clear hx
    have hx := bel_d0 w10 (.cells #[.bool fs, .slice cs ns ks, .slice ds ms ls] 27)
    replace hA := hA.below hx
    replace hB := hB.below hx
    replace hE := hE.below hx
    replace hT := hT.below hx
    replace Gx := Gx.below hx
    replace hU := hU.below hx
    replace Gy := Gy.below hx
    replace Gs := Gs.below hx
    replace VA := VA.below hx
    replace VB := VB.below hx
    replace Vx := Vx.below hx
    replace Vt := Vt.below hx
    replace Vy := Vy.below hx
    replace hb0 := bel_tr hb0 hx
    have Vs := var3_new w10 (.bool fs) (.slice cs ns ks) (.slice ds ms ls) 27
    clear hx
    obtain ⟨vtc0, vtc1, vtc2, vtc3, vtc4, vtc5⟩ := id Vt
    obtain ⟨vbc0, vbc1, vbc2, vbc3, vbc4, vbc5⟩ := id VB
    go_wp2_with fail
    generalize w10.alloc (.cells #[.bool fs, .slice cs ns ks, .slice ds ms ls] 27) = w11 at *
    refine (addQ _ hU hB (by omega) (by omega) (by omega) hT).mono ?_
    rintro e w12 ⟨fu, cu, nu, ku, du, mu, lu, rfl, Gu, hx⟩
    clear vtc0 vtc1 vtc2 vtc3 vtc4 vtc5 vbc0 vbc1 vbc2 vbc3 vbc4 vbc5
    replace hA := hA.below hx
    replace hB := hB.below hx
    replace hE := hE.below hx
    replace hT := hT.below hx
    replace Gx := Gx.below hx
    replace hU := hU.below hx
    replace Gy := Gy.below hx
    replace Gs := Gs.below hx
    replace VA := VA.below hx
    replace VB := VB.below hx
    replace Vx := Vx.below hx
    replace Vt := Vt.below hx
    replace Vy := Vy.below hx
    replace Vs := Vs.below hx
    replace hb0 := bel_tr hb0 hx
    clear hx
    have hx := bel_d0 w12 (.cells #[.bool fu, .slice cu nu ku, .slice du mu lu] 27)
    replace hA := hA.below hx
    replace hB := hB.below hx
    replace hE := hE.below hx
    replace hT := hT.below hx
    replace Gx := Gx.below hx
    replace hU := hU.below hx
    replace Gy := Gy.below hx
    replace Gs := Gs.below hx
    replace Gu := Gu.below hx
    replace VA := VA.below hx
    replace VB := VB.below hx
    replace Vx := Vx.below hx
    replace Vt := Vt.below hx
    replace Vy := Vy.below hx
    replace Vs := Vs.below hx
    replace hb0 := bel_tr hb0 hx
    have Vu := var3_new w12 (.bool fu) (.slice cu nu ku) (.slice du mu lu) 27
    clear hx
    obtain ⟨vbc0, vbc1, vbc2, vbc3, vbc4, vbc5⟩ := id VB
    obtain ⟨vac0, vac1, vac2, vac3, vac4, vac5⟩ := id VA
    go_wp2_with fail
    generalize w12.alloc (.cells #[.bool fu, .slice cu nu ku, .slice du mu lu] 27) = w13 at *
    refine (mulQ _ hB hA (by omega) (by omega) (by omega) hT).mono ?_
    rintro e w14 ⟨fp, cp, np, kp, dp, mp, lp, rfl, Gp, hx⟩
    clear vbc0 vbc1 vbc2 vbc3 vbc4 vbc5 vac0 vac1 vac2 vac3 vac4 vac5
    replace hA := hA.below hx
    replace hB := hB.below hx
    replace hE := hE.below hx
    replace hT := hT.below hx
    replace Gx := Gx.below hx
    replace hU := hU.below hx
    replace Gy := Gy.below hx
    replace Gs := Gs.below hx
    replace Gu := Gu.below hx
    replace VA := VA.below hx
    replace VB := VB.below hx
    replace Vx := Vx.below hx
    replace Vt := Vt.below hx
    replace Vy := Vy.below hx
    replace Vs := Vs.below hx
    replace Vu := Vu.below hx
    replace hb0 := bel_tr hb0 hx
    clear hx
    have hx := bel_d0 w14 (.cells #[.bool fp, .slice cp np kp, .slice dp mp lp] 27)
    replace hA := hA.below hx
    replace hB := hB.below hx
    replace hE := hE.below hx
    replace hT := hT.below hx
    replace Gx := Gx.below hx
    replace hU := hU.below hx
    replace Gy := Gy.below hx
    replace Gs := Gs.below hx
    replace Gu := Gu.below hx
    replace Gp := Gp.below hx
    replace VA := VA.below hx
    replace VB := VB.below hx
    replace Vx := Vx.below hx
    replace Vt := Vt.below hx
    replace Vy := Vy.below hx
    replace Vs := Vs.below hx
    replace Vu := Vu.below hx
    replace hb0 := bel_tr hb0 hx
    have Vp := var3_new w14 (.bool fp) (.slice cp np kp) (.slice dp mp lp) 27
    clear hx
    obtain ⟨vbc0, vbc1, vbc2, vbc3, vbc4, vbc5⟩ := id VB
    obtain ⟨vtc0, vtc1, vtc2, vtc3, vtc4, vtc5⟩ := id Vt
    go_wp2_with fail
    generalize w14.alloc (.cells #[.bool fp, .slice cp np kp, .slice dp mp lp] 27) = w15 at *
    refine (mulQ _ hB hU (by omega) (by omega) (by omega) hT).mono ?_
    rintro e w16 ⟨fq, cq, nq, kq, dq, mq, lq, rfl, Gq, hx⟩
    clear vbc0 vbc1 vbc2 vbc3 vbc4 vbc5 vtc0 vtc1 vtc2 vtc3 vtc4 vtc5
    replace hA := hA.below hx
    replace hB := hB.below hx
    replace hE := hE.below hx
    replace hT := hT.below hx
    replace Gx := Gx.below hx
    replace hU := hU.below hx
    replace Gy := Gy.below hx
    replace Gs := Gs.below hx
    replace Gu := Gu.below hx
    replace Gp := Gp.below hx
    replace VA := VA.below hx
    replace VB := VB.below hx
    replace Vx := Vx.below hx
    replace Vt := Vt.below hx
    replace Vy := Vy.below hx
    replace Vs := Vs.below hx
    replace Vu := Vu.below hx
    replace Vp := Vp.below hx
    replace hb0 := bel_tr hb0 hx
    clear hx
    have hx := bel_d0 w16 (.cells #[.bool fq, .slice cq nq kq, .slice dq mq lq] 27)
    replace hA := hA.below hx
    replace hB := hB.below hx
    replace hE := hE.below hx
    replace hT := hT.below hx
    replace Gx := Gx.below hx
    replace hU := hU.below hx
    replace Gy := Gy.below hx
    replace Gs := Gs.below hx
    replace Gu := Gu.below hx
    replace Gp := Gp.below hx
    replace Gq := Gq.below hx
    replace VA := VA.below hx
    replace VB := VB.below hx
    replace Vx := Vx.below hx
    replace Vt := Vt.below hx
    replace Vy := Vy.below hx
    replace Vs := Vs.below hx
    replace Vu := Vu.below hx
    replace Vp := Vp.below hx
    replace hb0 := bel_tr hb0 hx
    have Vq := var3_new w16 (.bool fq) (.slice cq nq kq) (.slice dq mq lq) 27
    clear hx
    obtain ⟨vac0, vac1, vac2, vac3, vac4, vac5⟩ := id VA
    obtain ⟨vbc0, vbc1, vbc2, vbc3, vbc4, vbc5⟩ := id VB
    go_wp2_with fail
    generalize w16.alloc (.cells #[.bool fq, .slice cq nq kq, .slice dq mq lq] 27) = w17 at *
    refine (cmpB cv _ hA hB (by omega) (by omega) (by omega) HC.out).mono ?_
    rintro e w18 ⟨rfl, hx⟩
    clear vac0 vac1 vac2 vac3 vac4 vac5 vbc0 vbc1 vbc2 vbc3 vbc4 vbc5
    replace hA := hA.below hx
    replace hB := hB.below hx
    replace hE := hE.below hx
    replace hT := hT.below hx
    replace Gx := Gx.below hx
    replace hU := hU.below hx
    replace Gy := Gy.below hx
    replace Gs := Gs.below hx
    replace Gu := Gu.below hx
    replace Gp := Gp.below hx
    replace Gq := Gq.below hx
    replace VA := VA.below hx
    replace VB := VB.below hx
    replace Vx := Vx.below hx
    replace Vt := Vt.below hx
    replace Vy := Vy.below hx
    replace Vs := Vs.below hx
    replace Vu := Vu.below hx
    replace Vp := Vp.below hx
    replace Vq := Vq.below hx
    replace hb0 := bel_tr hb0 hx
    clear hx
    obtain ⟨vtc0, vtc1, vtc2, vtc3, vtc4, vtc5⟩ := id Vt
    obtain ⟨vbc0, vbc1, vbc2, vbc3, vbc4, vbc5⟩ := id VB
    go_wp2_with fail
    refine (cmpB cv _ hU hB (by omega) (by omega) (by omega) HC.out).mono ?_
    rintro e w19 ⟨rfl, hx⟩
    clear vtc0 vtc1 vtc2 vtc3 vtc4 vtc5 vbc0 vbc1 vbc2 vbc3 vbc4 vbc5
    replace hA := hA.below hx
    replace hB := hB.below hx
    replace hE := hE.below hx
    replace hT := hT.below hx
    replace Gx := Gx.below hx
    replace hU := hU.below hx
    replace Gy := Gy.below hx
    replace Gs := Gs.below hx
    replace Gu := Gu.below hx
    replace Gp := Gp.below hx
    replace Gq := Gq.below hx
    replace VA := VA.below hx
    replace VB := VB.below hx
    replace Vx := Vx.below hx
    replace Vt := Vt.below hx
    replace Vy := Vy.below hx
    replace Vs := Vs.below hx
    replace Vu := Vu.below hx
    replace Vp := Vp.below hx
    replace Vq := Vq.below hx
    replace hb0 := bel_tr hb0 hx
    clear hx
    obtain ⟨vac0, vac1, vac2, vac3, vac4, vac5⟩ := id VA
    go_wp2_with fail
    refine (textB tv _ hA (by omega) (by omega) hT HTX.out).mono ?_
    rintro e w20 ⟨rfl, hx⟩
    clear vac0 vac1 vac2 vac3 vac4 vac5
    replace hA := hA.below hx
    replace hB := hB.below hx
    replace hE := hE.below hx
    replace hT := hT.below hx
    replace Gx := Gx.below hx
    replace hU := hU.below hx
    replace Gy := Gy.below hx
    replace Gs := Gs.below hx
    replace Gu := Gu.below hx
    replace Gp := Gp.below hx
    replace Gq := Gq.below hx
    replace VA := VA.below hx
    replace VB := VB.below hx
    replace Vx := Vx.below hx
    replace Vt := Vt.below hx
    replace Vy := Vy.below hx
    replace Vs := Vs.below hx
    replace Vu := Vu.below hx
    replace Vp := Vp.below hx
    replace Vq := Vq.below hx
    replace hb0 := bel_tr hb0 hx
    clear hx
    obtain ⟨vtc0, vtc1, vtc2, vtc3, vtc4, vtc5⟩ := id Vt
    go_wp2_with fail
    refine (textB tv _ hU (by omega) (by omega) hT HTX.out).mono ?_
    rintro e w21 ⟨rfl, hx⟩
    clear vtc0 vtc1 vtc2 vtc3 vtc4 vtc5
    replace hA := hA.below hx
    replace hB := hB.below hx
    replace hE := hE.below hx
    replace hT := hT.below hx
    replace Gx := Gx.below hx
    replace hU := hU.below hx
    replace Gy := Gy.below hx
    replace Gs := Gs.below hx
    replace Gu := Gu.below hx
    replace Gp := Gp.below hx
    replace Gq := Gq.below hx
    replace VA := VA.below hx
    replace VB := VB.below hx
    replace Vx := Vx.below hx
    replace Vt := Vt.below hx
    replace Vy := Vy.below hx
    replace Vs := Vs.below hx
    replace Vu := Vu.below hx
    replace Vp := Vp.below hx
    replace Vq := Vq.below hx
    replace hb0 := bel_tr hb0 hx
    clear hx
    obtain ⟨vsc0, vsc1, vsc2, vsc3, vsc4, vsc5⟩ := id Vs
    go_wp2_with fail
    refine (bitsN _ Gs.2.num (by omega)).mono ?_
    rintro e w22 ⟨tb, rfl, htb, hx⟩
    clear vsc0 vsc1 vsc2 vsc3 vsc4 vsc5
    replace hA := hA.below hx
    replace hB := hB.below hx
    replace hE := hE.below hx
    replace hT := hT.below hx
    replace Gx := Gx.below hx
    replace hU := hU.below hx
    replace Gy := Gy.below hx
    replace Gs := Gs.below hx
    replace Gu := Gu.below hx
    replace Gp := Gp.below hx
    replace Gq := Gq.below hx
    replace VA := VA.below hx
    replace VB := VB.below hx
    replace Vx := Vx.below hx
    replace Vt := Vt.below hx
    replace Vy := Vy.below hx
    replace Vs := Vs.below hx
    replace Vu := Vu.below hx
    replace Vp := Vp.below hx
    replace Vq := Vq.below hx
    replace hb0 := bel_tr hb0 hx
    clear hx
    have htb1 : 0 < tb := by
      rcases htb with ⟨_, h⟩ | ⟨h, _⟩
      · have := (x + y).den_pos; omega
      · omega
    clear htb
    obtain ⟨vxc0, vxc1, vxc2, vxc3, vxc4, vxc5⟩ := id Vx
    obtain ⟨vyc0, vyc1, vyc2, vyc3, vyc4, vyc5⟩ := id Vy
    go_wp2_with fail
    refine (sameQ _ Gx Gy (rfl) (by omega)).mono ?_
    rintro e w23 ⟨rfl, hx⟩
    clear vxc0 vxc1 vxc2 vxc3 vxc4 vxc5 vyc0 vyc1 vyc2 vyc3 vyc4 vyc5
    replace hA := hA.below hx
    replace hB := hB.below hx
    replace hE := hE.below hx
    replace hT := hT.below hx
    replace Gx := Gx.below hx
    replace hU := hU.below hx
    replace Gy := Gy.below hx
    replace Gs := Gs.below hx
    replace Gu := Gu.below hx
    replace Gp := Gp.below hx
    replace Gq := Gq.below hx
    replace VA := VA.below hx
    replace VB := VB.below hx
    replace Vx := Vx.below hx
    replace Vt := Vt.below hx
    replace Vy := Vy.below hx
    replace Vs := Vs.below hx
    replace Vu := Vu.below hx
    replace Vp := Vp.below hx
    replace Vq := Vq.below hx
    replace hb0 := bel_tr hb0 hx
    clear hx
    obtain ⟨vsc0, vsc1, vsc2, vsc3, vsc4, vsc5⟩ := id Vs
    obtain ⟨vuc0, vuc1, vuc2, vuc3, vuc4, vuc5⟩ := id Vu
    clear Vx
    clear Gx
    clear Vy
    clear Gy
    go_wp2_with fail
    refine (sameQ _ Gs Gu (rfl) (by omega)).mono ?_
    rintro e w24 ⟨rfl, hx⟩
    clear vsc0 vsc1 vsc2 vsc3 vsc4 vsc5 vuc0 vuc1 vuc2 vuc3 vuc4 vuc5
    replace hA := hA.below hx
    replace hB := hB.below hx
    replace hE := hE.below hx
    replace hT := hT.below hx
    replace hU := hU.below hx
    replace Gs := Gs.below hx
    replace Gu := Gu.below hx
    replace Gp := Gp.below hx
    replace Gq := Gq.below hx
    replace VA := VA.below hx
    replace VB := VB.below hx
    replace Vt := Vt.below hx
    replace Vs := Vs.below hx
    replace Vu := Vu.below hx
    replace Vp := Vp.below hx
    replace Vq := Vq.below hx
    replace hb0 := bel_tr hb0 hx
    clear hx
    obtain ⟨vpc0, vpc1, vpc2, vpc3, vpc4, vpc5⟩ := id Vp
    obtain ⟨vqc0, vqc1, vqc2, vqc3, vqc4, vqc5⟩ := id Vq
    clear Vu
    clear Gu
    go_wp2_with fail
    refine (sameQ _ Gp Gq (rfl) (by omega)).mono ?_
    rintro e w25 ⟨rfl, hx⟩
    clear vpc0 vpc1 vpc2 vpc3 vpc4 vpc5 vqc0 vqc1 vqc2 vqc3 vqc4 vqc5
    replace hA := hA.below hx
    replace hB := hB.below hx
    replace hE := hE.below hx
    replace hT := hT.below hx
    replace hU := hU.below hx
    replace Gs := Gs.below hx
    replace Gp := Gp.below hx
    replace Gq := Gq.below hx
    replace VA := VA.below hx
    replace VB := VB.below hx
    replace Vt := Vt.below hx
    replace Vs := Vs.below hx
    replace Vp := Vp.below hx
    replace Vq := Vq.below hx
    replace hb0 := bel_tr hb0 hx
    clear hx
    clear Vp
    clear Gp
    clear Vq
    clear Gq
    clear VA
    clear VB
    clear Vt
    clear hA
    clear hB
    clear hU
    clear hT
    go_wp2_with fail
    refine (bitsN _ hE (by omega)).mono ?_
    rintro e w26 ⟨te, rfl, hte, hx⟩
    replace hE := hE.below hx
    replace Gs := Gs.below hx
    replace Vs := Vs.below hx
    replace hb0 := bel_tr hb0 hx
    clear hx
    obtain ⟨vsc0, vsc1, vsc2, vsc3, vsc4, vsc5⟩ := id Vs
    by_cases hte2 : te < 2
    · have htI : (te : Int) < 2 := by omega
      clear hte
      clear vsc0 vsc1 vsc2 vsc3 vsc4 vsc5
      go_wp2
      go_ret
      exact ⟨rfl, hb0⟩
    · have htI : ¬ (te : Int) < 2 := by omega
      have hd2 : 2 ≤ dv := by
        rcases hte with ⟨h, _⟩ | ⟨_, h, _⟩
        · omega
        · have := Nat.pow_le_pow_right (n := 2) (by decide) (show 1 ≤ te - 1 by omega)
          omega
      clear hte hte2
      go_wp2_with fail
      refine (divG _ Gs.1.parts.2.num hE (by omega) (by omega) (by omega)).mono ?_
      rintro e w27 ⟨c1, n1, k1, c2, n2, k2, rfl, -, Gr, -, hx⟩
      clear vsc0 vsc1 vsc2 vsc3 vsc4 vsc5
      replace hE := hE.below hx
      replace Gs := Gs.below hx
      replace Vs := Vs.below hx
      replace hb0 := bel_tr hb0 hx
      clear hx
      obtain ⟨vsc0, vsc1, vsc2, vsc3, vsc4, vsc5⟩ := id Vs
      clear htI
      go_wp2_with fail
      refine (divG _ Gs.2.num hE (by omega) (by omega) (by omega)).mono ?_
      rintro e w28 ⟨c3, n3, k3, c4, n4, k4, rfl, -, Gt, -, hx⟩
      clear vsc0 vsc1 vsc2 vsc3 vsc4 vsc5
      replace hE := hE.below hx
      replace Gs := Gs.below hx
      replace Gr := Gr.below hx
      replace Vs := Vs.below hx
      replace hb0 := bel_tr hb0 hx
      clear hx
      clear Vs
      clear Gs
      clear hE
      go_wp2_with fail
      refine (bitsN _ Gr.num (by omega)).mono ?_
      rintro e w29 ⟨tr, rfl, htr, hx⟩
      replace Gr := Gr.below hx
      replace Gt := Gt.below hx
      replace hb0 := bel_tr hb0 hx
      clear hx
      by_cases htr0 : tr = 0
      · subst htr0
        have hr0 : ((x + y).num.natAbs : Int) % dv = 0 := by
          rcases htr with ⟨_, h⟩ | ⟨h, _⟩
          · exact h
          · omega
        clear htr
        go_wp2_with fail
        refine (bitsN _ Gt.num (by omega)).mono ?_
        rintro e w30 ⟨tt, rfl, htt, hx⟩
        replace Gr := Gr.below hx
        replace Gt := Gt.below hx
        replace hb0 := bel_tr hb0 hx
        clear hx
        have htt0 : tt ≠ 0 := by
          rintro rfl
          have h : ((x + y).den : Int) % dv = 0 := by
            rcases htt with ⟨_, h⟩ | ⟨h, _⟩
            · exact h
            · omega
          exact no_div (x + y) hd2 hr0 h
        have httI : ((tt : Int) == 0) = false := by simp; omega
        clear htt hr0
        go_wp2
        go_ret
        exact ⟨rfl, hb0⟩
      · have htrI : ((tr : Int) == 0) = false := by simp; omega
        clear htr
        go_wp2
        go_ret
        exact ⟨rfl, hb0⟩
theorem lowest_all {p1 : Bool} {a1 : Option Addr} {na1 ca1 : Nat} {d1 : Option Addr} {nd1 cd1 : Nat} {p2 : Bool} {a2 : Option Addr} {na2 ca2 : Nat} {d2 : Option Addr} {nd2 cd2 : Nat} {ak ae : Option Addr} {nk ck ne ke : Nat} {x y : Rat} {kk dv : Int} {S : Nat} (w : World) (hA : TR w p1 a1 na1 ca1 d1 nd1 cd1 x S) (hB : TR w p2 a2 na2 ca2 d2 nd2 cd2 y S) (hK : Num w ak nk ck kk S) (hE : Num w ae ne ke dv S) (hS : S ≤ 1100000) (hS1 : 1 ≤ S) (hT : TB w) {ev : Value} (E : Errs w 0 ev) :
    Calls Tryz.prog 4 #[.agg #[.bool p1, .slice a1 na1 ca1, .slice d1 nd1 cd1], .agg #[.bool p2, .slice a2 na2 ca2, .slice d2 nd2 cd2], .slice ak nk ck, .slice ae ne ke] w fun e w' => e = .returned (.bool true) ∧ Below w.heap.size w w' :=
  lowest_walk (cv := cs x y) (tv := txtQ x) w hA hB hK hE hS hS1 hT E (show cs x y = cs x y from rfl) (show txtQ x = txtQ x from rfl)
end Go.Proofs.YtpngkbljalnfjaaGreatDoor

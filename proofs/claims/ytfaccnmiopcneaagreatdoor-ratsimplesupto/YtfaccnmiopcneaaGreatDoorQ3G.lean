import Derived.Test.YtfaccnmiopcneaaGreatDoorQAll
import Derived.Test.YtfaccnmiopcneaaGreatDoorQ3Iw
import Derived.Test.YtfaccnmiopcneaaGreatDoorR2R
import Derived.Test.YtfaccnmiopcneaaGreatDoorR3K
namespace Go.Proofs.YtfaccnmiopcneaaGreatDoor
open Go.RowKit

set_option maxHeartbeats 4000000 in
theorem refSameP {f g : Bool} {c c2 : Option Addr} {n n2 k k2 : Nat} {d d2 : Option Addr} {nd nd2 kd kd2 : Nat} {x y : Int} {B B' S R : Nat} (w : World) (ha : GI w B (.agg #[.bool f, .slice c n k]) x S) (La : Got w B (.slice d nd kd) y S) (hb : GI w B' (.agg #[.bool g, .slice c2 n2 k2]) x R) (Lb : Got w B' (.slice d2 nd2 kd2) y R) (hS : S ≤ 100000000) :
    Calls Tryz.prog 59 #[.agg #[.bool f, .slice c n k, .slice d nd kd], .agg #[.bool g, .slice c2 n2 k2, .slice d2 nd2 kd2]] w fun e w' => e = .returned (.bool true) ∧ Below w.heap.size w w' := by
  obtain ⟨P0, P1, hb0, hsz⟩ := box_rr w (.bool f) (.slice c n k) (.slice d nd kd) (.bool g) (.slice c2 n2 k2) (.slice d2 nd2 kd2) 27
  obtain ⟨_, _, _, e1, Ka⟩ := ha
  obtain ⟨_, _, _, e2, Kb⟩ := hb
  simp only [Value.agg.injEq, Array.mk.injEq, List.cons.injEq, Value.bool.injEq, Value.slice.injEq, and_true] at e1 e2
  obtain ⟨rfl, rfl, rfl, rfl⟩ := e1
  obtain ⟨rfl, rfl, rfl, rfl⟩ := e2
  generalize decide (x < 0) = f at *
  replace Ka := Ka.below hb0
  replace La := La.below hb0
  replace Kb := Kb.below hb0
  replace Lb := Lb.below hb0
  go_enter Tryz.func59, Tryz.ntmps59
  obtain ⟨p0c0, p0c1, p0c2, p0c3, p0c4, p0c5⟩ := id P0
  obtain ⟨p1c0, p1c1, p1c2, p1c3, p1c4, p1c5⟩ := id P1
  go_wp2_with fail
  generalize (w.alloc (.cells #[.bool f, .slice c n k, .slice d nd kd] 27)).alloc (.cells #[.bool f, .slice c2 n2 k2, .slice d2 nd2 kd2] 27) = W0 at *
  refine (sameG _ Ka Kb rfl (by omega)).mono ?_
  rintro e w1 ⟨rfl, hx⟩
  clear p0c0 p0c1 p0c2 p0c3 p0c4 p0c5 p1c0 p1c1 p1c2 p1c3 p1c4 p1c5
  replace Ka := Ka.below hx
  replace La := La.below hx
  replace Kb := Kb.below hx
  replace Lb := Lb.below hx
  replace P0 := P0.below hx
  replace P1 := P1.below hx
  replace hb0 := bel_tr hb0 hx
  have hsw1 : W0.heap.size ≤ w1.heap.size := Below.size hx
  clear hx
  obtain ⟨p0c0, p0c1, p0c2, p0c3, p0c4, p0c5⟩ := id P0
  obtain ⟨p1c0, p1c1, p1c2, p1c3, p1c4, p1c5⟩ := id P1
  go_wp2_with fail
  refine (sameG _ La Lb rfl (by omega)).mono ?_
  rintro e w2 ⟨rfl, hx⟩
  clear p0c0 p0c1 p0c2 p0c3 p0c4 p0c5 p1c0 p1c1 p1c2 p1c3 p1c4 p1c5
  replace Ka := Ka.below hx
  replace La := La.below hx
  replace Kb := Kb.below hx
  replace Lb := Lb.below hx
  replace P0 := P0.below hx
  replace P1 := P1.below hx
  replace hb0 := bel_tr hb0 hx
  have hsw2 : w1.heap.size ≤ w2.heap.size := Below.size hx
  clear hx
  obtain ⟨p0c0, p0c1, p0c2, p0c3, p0c4, p0c5⟩ := id P0
  obtain ⟨p1c0, p1c1, p1c2, p1c3, p1c4, p1c5⟩ := id P1
  go_wp2_with (cases f <;> rfl)
  go_ret
  exact ⟨by simp, hb0⟩
set_option maxHeartbeats 4000000 in
/-- the document's Cmp -/
theorem cmpD (t : Int) {p q : Bool} {a b : Option Addr} {na nb ca cb : Nat} {d e0 : Option Addr} {nd ne cd ce : Nat} {r s : Rat} {S R : Nat} (w : World) (hr : TR w p a na ca d nd cd r S) (hs : TR w q b nb cb e0 ne ce s R) (hSR : S + R ≤ 6000000) (hS1 : 1 ≤ S) (hR1 : 1 ≤ R) (ht : t = cs r s) :
    Calls Tryz.prog 18 #[.agg #[.bool p, .slice a na ca, .slice d nd cd], .agg #[.bool q, .slice b nb cb, .slice e0 ne ce]] w fun e w' => e = .returned (.int .i64 t) ∧ Below w.heap.size w w' := by
  obtain ⟨P0, P1, hb0, hsz⟩ := box_rr w (.bool p) (.slice a na ca) (.slice d nd cd) (.bool q) (.slice b nb cb) (.slice e0 ne ce) 27
  replace hr := hr.below hb0
  replace hs := hs.below hb0
  go_enter Tryz.func18, Tryz.ntmps18
  go_wp2_with fail
  generalize (w.alloc (.cells #[.bool p, .slice a na ca, .slice d nd cd] 27)).alloc (.cells #[.bool q, .slice b nb cb, .slice e0 ne ce] 27) = W0 at *
  replace hsz := Nat.le_of_eq hsz.symm
  obtain ⟨p0c0, p0c1, p0c2, p0c3, p0c4, p0c5⟩ := id P0
  obtain ⟨p1c0, p1c1, p1c2, p1c3, p1c4, p1c5⟩ := id P1
  refine (subD _ hr hs (by omega) hS1 hR1).mono ?_
  rintro e w1 ⟨fx, cx, nx, kx, dX, mx, lx, rfl, Gx, hx⟩
  replace Gx := Gx.mono (B' := w.heap.size + 2) hsz
  clear p0c0 p0c1 p0c2 p0c3 p0c4 p0c5 p1c0 p1c1 p1c2 p1c3 p1c4 p1c5
  replace hr := hr.below hx
  replace hs := hs.below hx
  replace P0 := P0.below hx
  replace P1 := P1.below hx
  replace hb0 := bel_tr hb0 hx
  replace hsz := Nat.le_trans hsz (Below.size hx)
  clear hx
  clear P0
  clear P1
  clear hr
  clear hs
  have hx := bel_d0 w1 (.cells #[.bool fx, .slice cx nx kx, .slice dX mx lx] 27)
  replace Gx := Gx.below hx
  replace hb0 := bel_tr hb0 hx
  replace hsz := Nat.le_trans hsz (Below.size hx)
  have Vx := var3_new w1 (.bool fx) (.slice cx nx kx) (.slice dX mx lx) 27
  clear hx
  obtain ⟨vxc0, vxc1, vxc2, vxc3, vxc4, vxc5⟩ := id Vx
  go_wp2_with fail
  generalize w1.alloc (.cells #[.bool fx, .slice cx nx kx, .slice dX mx lx] 27) = w2 at *
  refine (signB t _ Gx.tr (by omega) (by omega) (by rw [ht, cs_sub])).mono ?_
  rintro e w3 ⟨rfl, hx⟩
  clear vxc0 vxc1 vxc2 vxc3 vxc4 vxc5
  replace Gx := Gx.below hx
  replace Vx := Vx.below hx
  replace hb0 := bel_tr hb0 hx
  replace hsz := Nat.le_trans hsz (Below.size hx)
  clear hx
  go_wp2
  go_ret
  exact ⟨by first | rfl | (rw [ht]; rfl), hb0⟩
set_option maxHeartbeats 4000000 in
/-- the document's Floor -/
theorem floorD {p : Bool} {a : Option Addr} {na ca : Nat} {d : Option Addr} {nd cd : Nat} {r : Rat} {S : Nat} (w : World) (hr : TR w p a na ca d nd cd r S) (hS : S ≤ 2000000) (hS1 : 1 ≤ S) :
    Calls Tryz.prog 56 #[.agg #[.bool p, .slice a na ca, .slice d nd cd]] w fun e w' => ∃ f c n k, e = .returned (.agg #[.bool f, .slice c n k]) ∧ GI w' w.heap.size (.agg #[.bool f, .slice c n k]) (r.num / r.den) (2 * S + 1) ∧ Below w.heap.size w w' := by
  have P0 := (var3_new w (.bool p) (.slice a na ca) (.slice d nd cd) 27).alloc (.cells #[.bool false, .slice none 0 0] 25)
  have R0 := var2_new (w.alloc (.cells #[.bool p, .slice a na ca, .slice d nd cd] 27)) (.bool false) (.slice none 0 0) 25
  rw [World.size_alloc] at R0
  have hb0 : Below w.heap.size w ((w.alloc (.cells #[.bool p, .slice a na ca, .slice d nd cd] 27)).alloc (.cells #[.bool false, .slice none 0 0] 25)) := bel_tr (bel_d0 _ _) (bel_d0 _ _)
  have hsz : w.heap.size + 2 ≤ ((w.alloc (.cells #[.bool p, .slice a na ca, .slice d nd cd] 27)).alloc (.cells #[.bool false, .slice none 0 0] 25)).heap.size := by simp
  replace hr := hr.below hb0
  go_enter Tryz.func56, Tryz.ntmps56
  go_wp2_with fail
  generalize (w.alloc (.cells #[.bool p, .slice a na ca, .slice d nd cd] 27)).alloc (.cells #[.bool false, .slice none 0 0] 25) = W0 at *
  obtain ⟨p0c0, p0c1, p0c2, p0c3, p0c4, p0c5⟩ := id P0
  refine (normD _ hr (by omega) hS1).mono ?_
  rintro e w1 ⟨fx, cx, nx, kx, dX, mx, lx, rfl, Gx, hx⟩
  replace Gx := Gx.mono (B' := w.heap.size + 2) hsz
  clear p0c0 p0c1 p0c2 p0c3 p0c4 p0c5
  replace hr := hr.below hx
  replace P0 := P0.below hx
  replace R0 := R0.below hx
  replace hb0 := bel_tr hb0 hx
  replace hsz := Nat.le_trans hsz (Below.size hx)
  clear hx
  clear P0
  clear hr
  have hx := bel_d0 w1 (.cells #[.bool fx, .slice cx nx kx, .slice dX mx lx] 27)
  replace Gx := Gx.below hx
  replace R0 := R0.below hx
  replace hb0 := bel_tr hb0 hx
  replace hsz := Nat.le_trans hsz (Below.size hx)
  have Vx := var3_new w1 (.bool fx) (.slice cx nx kx) (.slice dX mx lx) 27
  clear hx
  obtain ⟨vxc0, vxc1, vxc2, vxc3, vxc4, vxc5⟩ := id Vx
  go_wp2_with fail
  generalize w1.alloc (.cells #[.bool fx, .slice cx nx kx, .slice dX mx lx] 27) = w2 at *
  obtain ⟨e1, N1⟩ := Gx.1.parts
  have HV : Hid (flQ fx false (r.num.natAbs : Int) (r.den : Int) = r.num / r.den) := by
    show _ = _
    rw [fl_pos fx false (by have := r.den_pos; omega) (by show 0 < (r.den : Int); have := r.den_pos; omega), e1, ws_sign]; rfl
  refine (rdivI fx false _ Gx.1.parts.2.num Gx.2.num (by omega) (by have := r.den_pos; omega) hS1).mono ?_
  rintro e w3 ⟨fq, cq, nq, kq, fr, cr, nr, kr, rfl, Kq, -, hx⟩
  replace Kq := Kq.mono (B' := w.heap.size + 2) hsz
  clear vxc0 vxc1 vxc2 vxc3 vxc4 vxc5
  replace Gx := Gx.below hx
  replace R0 := R0.below hx
  replace Vx := Vx.below hx
  replace hb0 := bel_tr hb0 hx
  replace hsz := Nat.le_trans hsz (Below.size hx)
  clear hx
  replace Kq := Kq.val HV.out
  clear HV N1 e1
  clear Gx
  clear Vx
  obtain ⟨Vq, Vr, hx, hsx⟩ := box2 w3 (.bool fq) (.slice cq nq kq) (.bool fr) (.slice cr nr kr) 25
  replace Kq := Kq.below hx
  replace R0 := R0.below hx
  replace hb0 := bel_tr hb0 hx
  replace hsz := Nat.le_trans hsz (Below.size hx)
  clear hx hsx
  generalize hWQ : (w3.alloc (.cells #[.bool fq, .slice cq nq kq] 25)).alloc (.cells #[.bool fr, .slice cr nr kr] 25) = wQ at *
  obtain ⟨vqc0, vqc1, vqc2, vqc3⟩ := id Vq
  clear Vr
  obtain ⟨r0c0, r0c1, r0c2, r0c3⟩ := id R0
  obtain ⟨V, OO⟩ := R0.set (.bool fq) (.slice cq nq kq)
  have hw := hb0.trans (OO.below (B := w.heap.size) (by omega))
  have GF := (Kq.off OO (by omega))
  clear R0 OO hb0 Kq
  go_wp2
  refine bodyPost_ret (v := .agg #[.bool fq, .slice cq nq kq]) (by simp [results, Tryz.results56, go_sem, V.c0, V.c1]) rfl ⟨_, _, _, _, rfl, GF.mono (by omega), hw⟩
set_option maxHeartbeats 4000000 in
/-- the document's Ceil -/
theorem ceilD {p : Bool} {a : Option Addr} {na ca : Nat} {d : Option Addr} {nd cd : Nat} {r : Rat} {S : Nat} (w : World) (hr : TR w p a na ca d nd cd r S) (hS : S ≤ 2000000) (hS1 : 1 ≤ S) :
    Calls Tryz.prog 55 #[.agg #[.bool p, .slice a na ca, .slice d nd cd]] w fun e w' => ∃ f c n k, e = .returned (.agg #[.bool f, .slice c n k]) ∧ GI w' w.heap.size (.agg #[.bool f, .slice c n k]) (-((-r).num / (-r).den)) (2 * S + 1) ∧ Below w.heap.size w w' := by
  have P0 := (var3_new w (.bool p) (.slice a na ca) (.slice d nd cd) 27).alloc (.cells #[.bool false, .slice none 0 0] 25)
  have R0 := var2_new (w.alloc (.cells #[.bool p, .slice a na ca, .slice d nd cd] 27)) (.bool false) (.slice none 0 0) 25
  rw [World.size_alloc] at R0
  have hb0 : Below w.heap.size w ((w.alloc (.cells #[.bool p, .slice a na ca, .slice d nd cd] 27)).alloc (.cells #[.bool false, .slice none 0 0] 25)) := bel_tr (bel_d0 _ _) (bel_d0 _ _)
  have hsz : w.heap.size + 2 ≤ ((w.alloc (.cells #[.bool p, .slice a na ca, .slice d nd cd] 27)).alloc (.cells #[.bool false, .slice none 0 0] 25)).heap.size := by simp
  replace hr := hr.below hb0
  go_enter Tryz.func55, Tryz.ntmps55
  go_wp2_with fail
  generalize (w.alloc (.cells #[.bool p, .slice a na ca, .slice d nd cd] 27)).alloc (.cells #[.bool false, .slice none 0 0] 25) = W0 at *
  obtain ⟨p0c0, p0c1, p0c2, p0c3, p0c4, p0c5⟩ := id P0
  refine (negD _ hr (by omega) hS1).mono ?_
  rintro e w1 ⟨fx, cx, nx, kx, dX, mx, lx, rfl, Gx, hx⟩
  replace Gx := Gx.mono (B' := w.heap.size + 2) hsz
  clear p0c0 p0c1 p0c2 p0c3 p0c4 p0c5
  replace hr := hr.below hx
  replace P0 := P0.below hx
  replace R0 := R0.below hx
  replace hb0 := bel_tr hb0 hx
  replace hsz := Nat.le_trans hsz (Below.size hx)
  clear hx
  clear P0
  clear hr
  have hx := bel_d0 w1 (.cells #[.bool fx, .slice cx nx kx, .slice dX mx lx] 27)
  replace Gx := Gx.below hx
  replace R0 := R0.below hx
  replace hb0 := bel_tr hb0 hx
  replace hsz := Nat.le_trans hsz (Below.size hx)
  have Vx := var3_new w1 (.bool fx) (.slice cx nx kx) (.slice dX mx lx) 27
  clear hx
  obtain ⟨vxc0, vxc1, vxc2, vxc3, vxc4, vxc5⟩ := id Vx
  go_wp2_with fail
  generalize w1.alloc (.cells #[.bool fx, .slice cx nx kx, .slice dX mx lx] 27) = w2 at *
  refine (floorD _ Gx.tr (by omega) hS1).mono ?_
  rintro e w3 ⟨fq, cq, nq, kq, rfl, Kq, hx⟩
  replace Kq := Kq.mono (B' := w.heap.size + 2) hsz
  clear vxc0 vxc1 vxc2 vxc3 vxc4 vxc5
  replace Gx := Gx.below hx
  replace R0 := R0.below hx
  replace Vx := Vx.below hx
  replace hb0 := bel_tr hb0 hx
  replace hsz := Nat.le_trans hsz (Below.size hx)
  clear hx
  clear Gx
  clear Vx
  have hx := bel_d0 w3 (.cells #[.bool fq, .slice cq nq kq] 25)
  replace Kq := Kq.below hx
  replace R0 := R0.below hx
  replace hb0 := bel_tr hb0 hx
  replace hsz := Nat.le_trans hsz (Below.size hx)
  have Vq := var2_new w3 (.bool fq) (.slice cq nq kq) 25
  clear hx
  obtain ⟨vqc0, vqc1, vqc2, vqc3⟩ := id Vq
  go_wp2_with fail
  generalize w3.alloc (.cells #[.bool fq, .slice cq nq kq] 25) = w4 at *
  refine (rnegT _ Kq.ti (by omega)).mono ?_
  rintro e w5 ⟨fz, cz, nz, kz, rfl, Kz, hx⟩
  replace Kz := Kz.mono (B' := w.heap.size + 2) hsz
  clear vqc0 vqc1 vqc2 vqc3
  replace Kq := Kq.below hx
  replace R0 := R0.below hx
  replace Vq := Vq.below hx
  replace hb0 := bel_tr hb0 hx
  replace hsz := Nat.le_trans hsz (Below.size hx)
  clear hx
  clear Kq
  clear Vq
  obtain ⟨r0c0, r0c1, r0c2, r0c3⟩ := id R0
  obtain ⟨V, OO⟩ := R0.set (.bool fz) (.slice cz nz kz)
  have hw := hb0.trans (OO.below (B := w.heap.size) (by omega))
  have GF := (Kz.off OO (by omega))
  clear R0 OO hb0 Kz
  go_wp2
  refine bodyPost_ret (v := .agg #[.bool fz, .slice cz nz kz]) (by simp [results, Tryz.results55, go_sem, V.c0, V.c1]) rfl ⟨_, _, _, _, rfl, GF.mono (by omega), hw⟩
end Go.Proofs.YtfaccnmiopcneaaGreatDoor

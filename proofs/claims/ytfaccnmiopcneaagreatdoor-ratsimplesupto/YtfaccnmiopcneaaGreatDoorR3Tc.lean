import Derived.Test.YtfaccnmiopcneaaGreatDoorR3Tb
import Derived.Test.YtfaccnmiopcneaaGreatDoorQ3G
namespace Go.Proofs.YtfaccnmiopcneaaGreatDoor
open Go.RowKit

set_option maxRecDepth 100000 in
set_option maxHeartbeats 8000000 in
/-- the document's simplest -/
theorem simplestD (N : Nat) : ∀ {p q : Bool} {a b : Option Addr} {na nb ca cb : Nat} {d e0 : Option Addr} {nd ne cd ce : Nat} {r s : Rat} {S : Nat} (w : World) (_ : TR w p a na ca d nd cd r S) (_ : TR w q b nb cb e0 ne ce s S) (_ : S ≤ 1100000) (_ : 1 ≤ S) (_ : 0 < r) (_ : r ≤ s) (_ : r.den + s.den ≤ N),
    Calls Tryz.prog 22 #[.agg #[.bool p, .slice a na ca, .slice d nd cd], .agg #[.bool q, .slice b nb cb, .slice e0 ne ce]] w fun e w' => ∃ f c n k c' n' k' z, e = .returned (.agg #[.bool f, .slice c n k, .slice c' n' k']) ∧ GR w' w.heap.size f c n k c' n' k' z S ∧ Best r s z ∧ Below w.heap.size w w' := by
  induction N with
  | zero =>
    intro p q a b na nb ca cb d e0 nd ne cd ce r s S w hr hs hS hS1 hr0 hrs hN
    have := r.den_pos
    omega
  | succ N ih =>
    intro p q a b na nb ca cb d e0 nd ne cd ce r s S w hr hs hS hS1 hr0 hrs hN
    have IH : Hid _ := @ih
    clear ih
    have hr0x := hr0
    obtain ⟨A, hA, hA0, e1⟩ := parts_nat hr0
    have HA : Hid (r.num = (A : Int)) := hA
    have zr := hr.sz hS1
    have zs := hs.sz hS1
    have ZR : Hid (SzR r S) := zr
    have ZS : Hid (SzR s S) := zs
    have HC : Hid (((-((-r).num / (-r).den)).natAbs : Int) < pw S) := by show _ < _; have := ceil_small hr0 hA; have := zr.1; omega
    have HF : Hid (((r.num / (r.den : Int)).natAbs : Int) < pw S) := by show _ < _; rw [fl_nat r hA]; have h1 : A / r.den ≤ A := Nat.div_le_self _ _; have := zr.1; simp only [Int.natAbs_natCast]; omega
    have HB : Hid (∀ h : ((-((-r).num / (-r).den) : Int) : Rat) ≤ s, Best r s ((-((-r).num / (-r).den) : Int) : Rat)) := fun h => Best.ceil hr0 h
    have HST : Hid (∀ h : ¬ ((-((-r).num / (-r).den) : Int) : Rat) ≤ s, Step r s ((r.num / (r.den : Int) : Int) : Rat) S) := fun h => by
      have := step_of hA hr0 hrs h zr zs hS1
      rw [fl_nat r hA]; exact this
    have HLE : Hid (r ≤ s) := hrs
    clear hA e1 zr zs hr0 hrs
    obtain ⟨cI, hcI⟩ : ∃ c : Int, c = -((-r).num / (-r).den) := ⟨_, rfl⟩
    rw [← hcI] at HC HB HST
    obtain ⟨fI, hfI⟩ : ∃ c : Int, c = r.num / (r.den : Int) := ⟨_, rfl⟩
    rw [← hfI] at HF HST
    have HcI : Hid (cI = -((-r).num / (-r).den)) := hcI
    have HfI : Hid (fI = r.num / (r.den : Int)) := hfI
    clear hcI hfI
    obtain ⟨VA, VB, R0, hb0, hsz⟩ := box_rrr w (.bool p) (.slice a na ca) (.slice d nd cd) (.bool q) (.slice b nb cb) (.slice e0 ne ce) (.bool false) (.slice none 0 0) (.slice none 0 0) 27
    replace hsz := Nat.le_of_eq hsz.symm
    replace hr := hr.below hb0
    replace hs := hs.below hb0
    go_enter Tryz.func22, Tryz.ntmps22
    obtain ⟨vac0, vac1, vac2, vac3, vac4, vac5⟩ := id VA
    go_wp2_with fail
    generalize ((w.alloc (.cells #[.bool p, .slice a na ca, .slice d nd cd] 27)).alloc (.cells #[.bool q, .slice b nb cb, .slice e0 ne ce] 27)).alloc (.cells #[.bool false, .slice none 0 0, .slice none 0 0] 27) = W0 at *
    refine (ceilD _ hr (by omega) hS1).mono ?_
    rintro e w1 ⟨fn, cn, nn, kn, rfl, Gn, hx⟩
    replace Gn := Gn.mono hsz
    clear vac0 vac1 vac2 vac3 vac4 vac5
    replace hr := hr.below hx
    replace hs := hs.below hx
    replace VA := VA.below hx
    replace VB := VB.below hx
    replace R0 := R0.below hx
    replace hb0 := bel_tr hb0 hx
    replace hsz := Nat.le_trans hsz (Below.size hx)
    clear hx
    replace Gn := (Gn.val HcI.out.symm).shrink HC.out
    have hx := bel_d0 w1 (.cells #[.bool fn, .slice cn nn kn] 25)
    replace hr := hr.below hx
    replace hs := hs.below hx
    replace Gn := Gn.below hx
    replace VA := VA.below hx
    replace VB := VB.below hx
    replace R0 := R0.below hx
    replace hb0 := bel_tr hb0 hx
    replace hsz := Nat.le_trans hsz (Below.size hx)
    have Vn := var2_new w1 (.bool fn) (.slice cn nn kn) 25
    clear hx
    obtain ⟨i0, i1, i2, i3⟩ := id Vn
    go_wp2_with fail
    generalize w1.alloc (.cells #[.bool fn, .slice cn nn kn] 25) = w2 at *
    clear i0 i1 i2 i3
    refine (wholeD _ Gn.ti (by omega) hS1).mono ?_
    rintro e w3 ⟨fc, cc, nc, kc, dc, mc, lc, rfl, Gc, hx⟩
    replace Gc := Gc.mono hsz
    replace hr := hr.below hx
    replace hs := hs.below hx
    replace Gn := Gn.below hx
    replace VA := VA.below hx
    replace VB := VB.below hx
    replace R0 := R0.below hx
    replace Vn := Vn.below hx
    replace hb0 := bel_tr hb0 hx
    replace hsz := Nat.le_trans hsz (Below.size hx)
    clear hx
    have hx := bel_d0 w3 (.cells #[.bool fc, .slice cc nc kc, .slice dc mc lc] 27)
    replace hr := hr.below hx
    replace hs := hs.below hx
    replace Gn := Gn.below hx
    replace Gc := Gc.below hx
    replace VA := VA.below hx
    replace VB := VB.below hx
    replace R0 := R0.below hx
    replace Vn := Vn.below hx
    replace hb0 := bel_tr hb0 hx
    replace hsz := Nat.le_trans hsz (Below.size hx)
    have Vc := var3_new w3 (.bool fc) (.slice cc nc kc) (.slice dc mc lc) 27
    clear hx
    obtain ⟨vcc0, vcc1, vcc2, vcc3, vcc4, vcc5⟩ := id Vc
    obtain ⟨vbc0, vbc1, vbc2, vbc3, vbc4, vbc5⟩ := id VB
    go_wp2_with fail
    generalize w3.alloc (.cells #[.bool fc, .slice cc nc kc, .slice dc mc lc] 27) = w4 at *
    obtain ⟨t, qt⟩ : ∃ t, t = cs (cI : Rat) s := ⟨_, rfl⟩
    have Qt : Hid (t = cs (cI : Rat) s) := qt
    clear qt
    refine (cmpD t _ Gc.tr hs (by omega) hS1 hS1 Qt.out).mono ?_
    rintro e w5 ⟨rfl, hx⟩
    clear vcc0 vcc1 vcc2 vcc3 vcc4 vcc5 vbc0 vbc1 vbc2 vbc3 vbc4 vbc5
    replace hr := hr.below hx
    replace hs := hs.below hx
    replace Gn := Gn.below hx
    replace Gc := Gc.below hx
    replace VA := VA.below hx
    replace VB := VB.below hx
    replace R0 := R0.below hx
    replace Vc := Vc.below hx
    replace Vn := Vn.below hx
    replace hb0 := bel_tr hb0 hx
    replace hsz := Nat.le_trans hsz (Below.size hx)
    clear hx
    obtain ⟨vcc0, vcc1, vcc2, vcc3, vcc4, vcc5⟩ := id Vc
    by_cases hcs : (cI : Rat) ≤ s
    · have ht : t ≤ 0 := by rw [Qt.out, cs_le]; exact hcs
      have HBest : Hid (Best r s (cI : Rat)) := HB.out hcs
      obtain ⟨z0, z1, z2, z3, z4, z5⟩ := id R0
      obtain ⟨VV, O⟩ := R0.set (.bool fc) (.slice cc nc kc) (.slice dc mc lc)
      have GF := (Gc.off O (by omega)).mono (B' := w.heap.size) (by omega)
      have hw := hb0.trans (O.below (by omega))
      clear R0 O hb0
      go_wp2
      refine bodyPost_ret (v := .agg #[.bool fc, .slice cc nc kc, .slice dc mc lc]) (by simp [results, Tryz.results22, go_sem, VV.c0, VV.c1, VV.c2]) rfl ⟨_, _, _, _, _, _, _, _, rfl, GF, HBest.out, hw⟩
    have ht : ¬ t ≤ 0 := by rw [Qt.out, cs_le]; exact hcs
    have ST := HST.out hcs
    have HS2 : Hid (Step r s (fI : Rat) S) := ST
    clear ST HST HB hcs
    clear vcc0 vcc1 vcc2 vcc3 vcc4 vcc5
    obtain ⟨vac0, vac1, vac2, vac3, vac4, vac5⟩ := id VA
    go_wp2_with fail
    refine (floorD _ hr (by omega) hS1).mono ?_
    rintro e w6 ⟨fm, cm, nm, km, rfl, Gm, hx⟩
    replace Gm := Gm.mono hsz
    clear vac0 vac1 vac2 vac3 vac4 vac5
    replace hr := hr.below hx
    replace hs := hs.below hx
    replace Gn := Gn.below hx
    replace Gc := Gc.below hx
    replace VA := VA.below hx
    replace VB := VB.below hx
    replace R0 := R0.below hx
    replace Vc := Vc.below hx
    replace Vn := Vn.below hx
    replace hb0 := bel_tr hb0 hx
    replace hsz := Nat.le_trans hsz (Below.size hx)
    clear hx
    replace Gm := (Gm.val HfI.out.symm).shrink HF.out
    have hx := bel_d0 w6 (.cells #[.bool fm, .slice cm nm km] 25)
    replace hr := hr.below hx
    replace hs := hs.below hx
    replace Gn := Gn.below hx
    replace Gc := Gc.below hx
    replace Gm := Gm.below hx
    replace VA := VA.below hx
    replace VB := VB.below hx
    replace R0 := R0.below hx
    replace Vc := Vc.below hx
    replace Vn := Vn.below hx
    replace hb0 := bel_tr hb0 hx
    replace hsz := Nat.le_trans hsz (Below.size hx)
    have Vm := var2_new w6 (.bool fm) (.slice cm nm km) 25
    clear hx
    obtain ⟨i0, i1, i2, i3⟩ := id Vm
    go_wp2_with fail
    generalize w6.alloc (.cells #[.bool fm, .slice cm nm km] 25) = w7 at *
    clear i0 i1 i2 i3
    refine (wholeD _ Gm.ti (by omega) hS1).mono ?_
    rintro e w8 ⟨ff, cf, nf, kf, df, mf, lf, rfl, Gf, hx⟩
    replace Gf := Gf.mono hsz
    replace hr := hr.below hx
    replace hs := hs.below hx
    replace Gn := Gn.below hx
    replace Gc := Gc.below hx
    replace Gm := Gm.below hx
    replace VA := VA.below hx
    replace VB := VB.below hx
    replace R0 := R0.below hx
    replace Vc := Vc.below hx
    replace Vn := Vn.below hx
    replace Vm := Vm.below hx
    replace hb0 := bel_tr hb0 hx
    replace hsz := Nat.le_trans hsz (Below.size hx)
    clear hx
    have hx := bel_d0 w8 (.cells #[.bool ff, .slice cf nf kf, .slice df mf lf] 27)
    replace hr := hr.below hx
    replace hs := hs.below hx
    replace Gn := Gn.below hx
    replace Gc := Gc.below hx
    replace Gm := Gm.below hx
    replace Gf := Gf.below hx
    replace VA := VA.below hx
    replace VB := VB.below hx
    replace R0 := R0.below hx
    replace Vc := Vc.below hx
    replace Vn := Vn.below hx
    replace Vm := Vm.below hx
    replace hb0 := bel_tr hb0 hx
    replace hsz := Nat.le_trans hsz (Below.size hx)
    have Vf := var3_new w8 (.bool ff) (.slice cf nf kf) (.slice df mf lf) 27
    clear hx
    obtain ⟨vac0, vac1, vac2, vac3, vac4, vac5⟩ := id VA
    obtain ⟨vfc0, vfc1, vfc2, vfc3, vfc4, vfc5⟩ := id Vf
    go_wp2_with fail
    generalize w8.alloc (.cells #[.bool ff, .slice cf nf kf, .slice df mf lf] 27) = w9 at *
    refine (subD _ hr Gf.tr (by omega) hS1 hS1).mono ?_
    rintro e w10 ⟨fa, ca, na, ka, da, ma, la, rfl, Ga, hx⟩
    replace Ga := Ga.mono hsz
    clear vac0 vac1 vac2 vac3 vac4 vac5 vfc0 vfc1 vfc2 vfc3 vfc4 vfc5
    replace hr := hr.below hx
    replace hs := hs.below hx
    replace Gn := Gn.below hx
    replace Gc := Gc.below hx
    replace Gm := Gm.below hx
    replace Gf := Gf.below hx
    replace VA := VA.below hx
    replace VB := VB.below hx
    replace R0 := R0.below hx
    replace Vc := Vc.below hx
    replace Vf := Vf.below hx
    replace Vn := Vn.below hx
    replace Vm := Vm.below hx
    replace hb0 := bel_tr hb0 hx
    replace hsz := Nat.le_trans hsz (Below.size hx)
    clear hx
    have hx := bel_d0 w10 (.cells #[.bool fa, .slice ca na ka, .slice da ma la] 27)
    replace hr := hr.below hx
    replace hs := hs.below hx
    replace Gn := Gn.below hx
    replace Gc := Gc.below hx
    replace Gm := Gm.below hx
    replace Gf := Gf.below hx
    replace Ga := Ga.below hx
    replace VA := VA.below hx
    replace VB := VB.below hx
    replace R0 := R0.below hx
    replace Vc := Vc.below hx
    replace Vf := Vf.below hx
    replace Vn := Vn.below hx
    replace Vm := Vm.below hx
    replace hb0 := bel_tr hb0 hx
    replace hsz := Nat.le_trans hsz (Below.size hx)
    have Va := var3_new w10 (.bool fa) (.slice ca na ka) (.slice da ma la) 27
    clear hx
    obtain ⟨vbc0, vbc1, vbc2, vbc3, vbc4, vbc5⟩ := id VB
    obtain ⟨vfc0, vfc1, vfc2, vfc3, vfc4, vfc5⟩ := id Vf
    go_wp2_with fail
    generalize w10.alloc (.cells #[.bool fa, .slice ca na ka, .slice da ma la] 27) = w11 at *
    refine (subD _ hs Gf.tr (by omega) hS1 hS1).mono ?_
    rintro e w12 ⟨fb, cb, nb, kb, db, mb, lb, rfl, Gb, hx⟩
    replace Gb := Gb.mono hsz
    clear vbc0 vbc1 vbc2 vbc3 vbc4 vbc5 vfc0 vfc1 vfc2 vfc3 vfc4 vfc5
    replace hr := hr.below hx
    replace hs := hs.below hx
    replace Gn := Gn.below hx
    replace Gc := Gc.below hx
    replace Gm := Gm.below hx
    replace Gf := Gf.below hx
    replace Ga := Ga.below hx
    replace VA := VA.below hx
    replace VB := VB.below hx
    replace R0 := R0.below hx
    replace Vc := Vc.below hx
    replace Vf := Vf.below hx
    replace Va := Va.below hx
    replace Vn := Vn.below hx
    replace Vm := Vm.below hx
    replace hb0 := bel_tr hb0 hx
    replace hsz := Nat.le_trans hsz (Below.size hx)
    clear hx
    have hx := bel_d0 w12 (.cells #[.bool fb, .slice cb nb kb, .slice db mb lb] 27)
    replace hr := hr.below hx
    replace hs := hs.below hx
    replace Gn := Gn.below hx
    replace Gc := Gc.below hx
    replace Gm := Gm.below hx
    replace Gf := Gf.below hx
    replace Ga := Ga.below hx
    replace Gb := Gb.below hx
    replace VA := VA.below hx
    replace VB := VB.below hx
    replace R0 := R0.below hx
    replace Vc := Vc.below hx
    replace Vf := Vf.below hx
    replace Va := Va.below hx
    replace Vn := Vn.below hx
    replace Vm := Vm.below hx
    replace hb0 := bel_tr hb0 hx
    replace hsz := Nat.le_trans hsz (Below.size hx)
    have Vb := var3_new w12 (.bool fb) (.slice cb nb kb) (.slice db mb lb) 27
    clear hx
    obtain ⟨vbc0, vbc1, vbc2, vbc3, vbc4, vbc5⟩ := id Vb
    go_wp2_with fail
    generalize w12.alloc (.cells #[.bool fb, .slice cb nb kb, .slice db mb lb] 27) = w13 at *
    refine (invD _ Gb.tr (by omega) (by omega) (fun e => by have h := HS2.out.pb; rw [e] at h; exact absurd h Rat.lt_irrefl)).mono ?_
    rintro e w14 ⟨fx, cx, nx, kx, dx, mx, lx, rfl, Gx, hx⟩
    replace Gx := Gx.mono hsz
    clear vbc0 vbc1 vbc2 vbc3 vbc4 vbc5
    replace hr := hr.below hx
    replace hs := hs.below hx
    replace Gn := Gn.below hx
    replace Gc := Gc.below hx
    replace Gm := Gm.below hx
    replace Gf := Gf.below hx
    replace Ga := Ga.below hx
    replace Gb := Gb.below hx
    replace VA := VA.below hx
    replace VB := VB.below hx
    replace R0 := R0.below hx
    replace Vc := Vc.below hx
    replace Vf := Vf.below hx
    replace Va := Va.below hx
    replace Vb := Vb.below hx
    replace Vn := Vn.below hx
    replace Vm := Vm.below hx
    replace hb0 := bel_tr hb0 hx
    replace hsz := Nat.le_trans hsz (Below.size hx)
    clear hx
    have hx := bel_d0 w14 (.cells #[.bool fx, .slice cx nx kx, .slice dx mx lx] 27)
    replace hr := hr.below hx
    replace hs := hs.below hx
    replace Gn := Gn.below hx
    replace Gc := Gc.below hx
    replace Gm := Gm.below hx
    replace Gf := Gf.below hx
    replace Ga := Ga.below hx
    replace Gb := Gb.below hx
    replace Gx := Gx.below hx
    replace VA := VA.below hx
    replace VB := VB.below hx
    replace R0 := R0.below hx
    replace Vc := Vc.below hx
    replace Vf := Vf.below hx
    replace Va := Va.below hx
    replace Vb := Vb.below hx
    replace Vn := Vn.below hx
    replace Vm := Vm.below hx
    replace hb0 := bel_tr hb0 hx
    replace hsz := Nat.le_trans hsz (Below.size hx)
    have Vx := var3_new w14 (.bool fx) (.slice cx nx kx) (.slice dx mx lx) 27
    clear hx
    obtain ⟨vac0, vac1, vac2, vac3, vac4, vac5⟩ := id Va
    go_wp2_with fail
    generalize w14.alloc (.cells #[.bool fx, .slice cx nx kx, .slice dx mx lx] 27) = w15 at *
    refine (invD _ Ga.tr (by omega) (by omega) (fun e => by have h := HS2.out.pa; rw [e] at h; exact absurd h Rat.lt_irrefl)).mono ?_
    rintro e w16 ⟨fy, cy, ny, ky, dy, my, ly, rfl, Gy, hx⟩
    replace Gy := Gy.mono hsz
    clear vac0 vac1 vac2 vac3 vac4 vac5
    replace hr := hr.below hx
    replace hs := hs.below hx
    replace Gn := Gn.below hx
    replace Gc := Gc.below hx
    replace Gm := Gm.below hx
    replace Gf := Gf.below hx
    replace Ga := Ga.below hx
    replace Gb := Gb.below hx
    replace Gx := Gx.below hx
    replace VA := VA.below hx
    replace VB := VB.below hx
    replace R0 := R0.below hx
    replace Vc := Vc.below hx
    replace Vf := Vf.below hx
    replace Va := Va.below hx
    replace Vb := Vb.below hx
    replace Vx := Vx.below hx
    replace Vn := Vn.below hx
    replace Vm := Vm.below hx
    replace hb0 := bel_tr hb0 hx
    replace hsz := Nat.le_trans hsz (Below.size hx)
    clear hx
    have hx := bel_d0 w16 (.cells #[.bool fy, .slice cy ny ky, .slice dy my ly] 27)
    replace hr := hr.below hx
    replace hs := hs.below hx
    replace Gn := Gn.below hx
    replace Gc := Gc.below hx
    replace Gm := Gm.below hx
    replace Gf := Gf.below hx
    replace Ga := Ga.below hx
    replace Gb := Gb.below hx
    replace Gx := Gx.below hx
    replace Gy := Gy.below hx
    replace VA := VA.below hx
    replace VB := VB.below hx
    replace R0 := R0.below hx
    replace Vc := Vc.below hx
    replace Vf := Vf.below hx
    replace Va := Va.below hx
    replace Vb := Vb.below hx
    replace Vx := Vx.below hx
    replace Vn := Vn.below hx
    replace Vm := Vm.below hx
    replace hb0 := bel_tr hb0 hx
    replace hsz := Nat.le_trans hsz (Below.size hx)
    have Vy := var3_new w16 (.bool fy) (.slice cy ny ky) (.slice dy my ly) 27
    clear hx
    obtain ⟨vxc0, vxc1, vxc2, vxc3, vxc4, vxc5⟩ := id Vx
    obtain ⟨vyc0, vyc1, vyc2, vyc3, vyc4, vyc5⟩ := id Vy
    go_wp2_with fail
    generalize w16.alloc (.cells #[.bool fy, .slice cy ny ky, .slice dy my ly] 27) = w17 at *
    replace Gx := Gx.fit HS2.out.zb
    replace Gy := Gy.fit HS2.out.za
    refine (IH.out _ Gx.tr Gy.tr hS hS1 HS2.out.px HS2.out.le (by have := HS2.out.less; omega)).mono ?_
    rintro e w18 ⟨fz, cz, nz, kz, dz, mz, lz, z, rfl, Gz, hBz, hx⟩
    replace Gz := Gz.mono hsz
    clear vxc0 vxc1 vxc2 vxc3 vxc4 vxc5 vyc0 vyc1 vyc2 vyc3 vyc4 vyc5
    replace hr := hr.below hx
    replace hs := hs.below hx
    replace Gn := Gn.below hx
    replace Gc := Gc.below hx
    replace Gm := Gm.below hx
    replace Gf := Gf.below hx
    replace Ga := Ga.below hx
    replace Gb := Gb.below hx
    replace Gx := Gx.below hx
    replace Gy := Gy.below hx
    replace VA := VA.below hx
    replace VB := VB.below hx
    replace R0 := R0.below hx
    replace Vc := Vc.below hx
    replace Vf := Vf.below hx
    replace Va := Va.below hx
    replace Vb := Vb.below hx
    replace Vx := Vx.below hx
    replace Vy := Vy.below hx
    replace Vn := Vn.below hx
    replace Vm := Vm.below hx
    replace hb0 := bel_tr hb0 hx
    replace hsz := Nat.le_trans hsz (Below.size hx)
    clear hx
    have HBz : Hid (Best (s - (fI : Rat))⁻¹ (r - (fI : Rat))⁻¹ z) := hBz
    clear hBz
    have hx := bel_d0 w18 (.cells #[.bool fz, .slice cz nz kz, .slice dz mz lz] 27)
    replace hr := hr.below hx
    replace hs := hs.below hx
    replace Gn := Gn.below hx
    replace Gc := Gc.below hx
    replace Gm := Gm.below hx
    replace Gf := Gf.below hx
    replace Ga := Ga.below hx
    replace Gb := Gb.below hx
    replace Gx := Gx.below hx
    replace Gy := Gy.below hx
    replace Gz := Gz.below hx
    replace VA := VA.below hx
    replace VB := VB.below hx
    replace R0 := R0.below hx
    replace Vc := Vc.below hx
    replace Vf := Vf.below hx
    replace Va := Va.below hx
    replace Vb := Vb.below hx
    replace Vx := Vx.below hx
    replace Vy := Vy.below hx
    replace Vn := Vn.below hx
    replace Vm := Vm.below hx
    replace hb0 := bel_tr hb0 hx
    replace hsz := Nat.le_trans hsz (Below.size hx)
    have Vz := var3_new w18 (.bool fz) (.slice cz nz kz) (.slice dz mz lz) 27
    clear hx
    obtain ⟨vzc0, vzc1, vzc2, vzc3, vzc4, vzc5⟩ := id Vz
    go_wp2_with fail
    generalize w18.alloc (.cells #[.bool fz, .slice cz nz kz, .slice dz mz lz] 27) = w19 at *
    refine (invD _ Gz.tr (by omega) hS1 (fun e => by have h := HBz.out.pos HS2.out.px; rw [e] at h; exact absurd h Rat.lt_irrefl)).mono ?_
    rintro e w20 ⟨fw, cw, nw, kw, dw, mw, lw, rfl, Gw, hx⟩
    replace Gw := Gw.mono hsz
    clear vzc0 vzc1 vzc2 vzc3 vzc4 vzc5
    replace hr := hr.below hx
    replace hs := hs.below hx
    replace Gn := Gn.below hx
    replace Gc := Gc.below hx
    replace Gm := Gm.below hx
    replace Gf := Gf.below hx
    replace Ga := Ga.below hx
    replace Gb := Gb.below hx
    replace Gx := Gx.below hx
    replace Gy := Gy.below hx
    replace Gz := Gz.below hx
    replace VA := VA.below hx
    replace VB := VB.below hx
    replace R0 := R0.below hx
    replace Vc := Vc.below hx
    replace Vf := Vf.below hx
    replace Va := Va.below hx
    replace Vb := Vb.below hx
    replace Vx := Vx.below hx
    replace Vy := Vy.below hx
    replace Vz := Vz.below hx
    replace Vn := Vn.below hx
    replace Vm := Vm.below hx
    replace hb0 := bel_tr hb0 hx
    replace hsz := Nat.le_trans hsz (Below.size hx)
    clear hx
    have hx := bel_d0 w20 (.cells #[.bool fw, .slice cw nw kw, .slice dw mw lw] 27)
    replace hr := hr.below hx
    replace hs := hs.below hx
    replace Gn := Gn.below hx
    replace Gc := Gc.below hx
    replace Gm := Gm.below hx
    replace Gf := Gf.below hx
    replace Ga := Ga.below hx
    replace Gb := Gb.below hx
    replace Gx := Gx.below hx
    replace Gy := Gy.below hx
    replace Gz := Gz.below hx
    replace Gw := Gw.below hx
    replace VA := VA.below hx
    replace VB := VB.below hx
    replace R0 := R0.below hx
    replace Vc := Vc.below hx
    replace Vf := Vf.below hx
    replace Va := Va.below hx
    replace Vb := Vb.below hx
    replace Vx := Vx.below hx
    replace Vy := Vy.below hx
    replace Vz := Vz.below hx
    replace Vn := Vn.below hx
    replace Vm := Vm.below hx
    replace hb0 := bel_tr hb0 hx
    replace hsz := Nat.le_trans hsz (Below.size hx)
    have Vw := var3_new w20 (.bool fw) (.slice cw nw kw) (.slice dw mw lw) 27
    clear hx
    obtain ⟨vfc0, vfc1, vfc2, vfc3, vfc4, vfc5⟩ := id Vf
    obtain ⟨vwc0, vwc1, vwc2, vwc3, vwc4, vwc5⟩ := id Vw
    go_wp2_with fail
    generalize w20.alloc (.cells #[.bool fw, .slice cw nw kw, .slice dw mw lw] 27) = w21 at *
    have HBest : Hid (Best r s ((fI : Rat) + z⁻¹)) := HS2.out.best z HBz.out
    refine (addD _ Gf.tr Gw.tr (by omega) hS1 hS1).mono ?_
    rintro e w22 ⟨fu, cu, nu, ku, du, mu, lu, rfl, Gu, hx⟩
    replace Gu := Gu.mono hsz
    clear vfc0 vfc1 vfc2 vfc3 vfc4 vfc5 vwc0 vwc1 vwc2 vwc3 vwc4 vwc5
    replace hr := hr.below hx
    replace hs := hs.below hx
    replace Gn := Gn.below hx
    replace Gc := Gc.below hx
    replace Gm := Gm.below hx
    replace Gf := Gf.below hx
    replace Ga := Ga.below hx
    replace Gb := Gb.below hx
    replace Gx := Gx.below hx
    replace Gy := Gy.below hx
    replace Gz := Gz.below hx
    replace Gw := Gw.below hx
    replace VA := VA.below hx
    replace VB := VB.below hx
    replace R0 := R0.below hx
    replace Vc := Vc.below hx
    replace Vf := Vf.below hx
    replace Va := Va.below hx
    replace Vb := Vb.below hx
    replace Vx := Vx.below hx
    replace Vy := Vy.below hx
    replace Vz := Vz.below hx
    replace Vw := Vw.below hx
    replace Vn := Vn.below hx
    replace Vm := Vm.below hx
    replace hb0 := bel_tr hb0 hx
    replace hsz := Nat.le_trans hsz (Below.size hx)
    clear hx
    replace Gu := Gu.fit (HBest.out.sz HLE.out ZR.out)
    obtain ⟨z0, z1, z2, z3, z4, z5⟩ := id R0
    obtain ⟨VV, O⟩ := R0.set (.bool fu) (.slice cu nu ku) (.slice du mu lu)
    have GF := (Gu.off O (by omega)).mono (B' := w.heap.size) (by omega)
    have hw := hb0.trans (O.below (by omega))
    clear R0 O hb0
    go_wp2
    refine bodyPost_ret (v := .agg #[.bool fu, .slice cu nu ku, .slice du mu lu]) (by simp [results, Tryz.results22, go_sem, VV.c0, VV.c1, VV.c2]) rfl ⟨_, _, _, _, _, _, _, _, rfl, GF, HBest.out, hw⟩
set_option maxRecDepth 100000 in
set_option maxHeartbeats 8000000 in
/-- the document's Simplest, where the ends are crossed -/
theorem simplestDE {p q : Bool} {a b : Option Addr} {na nb ca cb : Nat} {d e0 : Option Addr} {nd ne cd ce : Nat} {r s : Rat} {S : Nat} (w : World) (hr : TR w p a na ca d nd cd r S) (hs : TR w q b nb cb e0 ne ce s S) (hS : S ≤ 1100000) (hS1 : 1 ≤ S) (hrs : s < r) :
    Calls Tryz.prog 6 #[.agg #[.bool p, .slice a na ca, .slice d nd cd], .agg #[.bool q, .slice b nb cb, .slice e0 ne ce]] w fun e w' => e = .returned (.tuple #[.agg #[.bool false, .slice none 0 0, .slice none 0 0], .int .i64 1]) ∧ Below w.heap.size w w' := by
  obtain ⟨VA, VB, R0, hb0, hsz⟩ := box_rrr w (.bool p) (.slice a na ca) (.slice d nd cd) (.bool q) (.slice b nb cb) (.slice e0 ne ce) (.bool false) (.slice none 0 0) (.slice none 0 0) 27
  replace hsz := Nat.le_of_eq hsz.symm
  replace hr := hr.below hb0
  replace hs := hs.below hb0
  go_enter Tryz.func6, Tryz.ntmps6
  obtain ⟨vac0, vac1, vac2, vac3, vac4, vac5⟩ := id VA
  obtain ⟨vbc0, vbc1, vbc2, vbc3, vbc4, vbc5⟩ := id VB
  go_wp2_with fail
  generalize ((w.alloc (.cells #[.bool p, .slice a na ca, .slice d nd cd] 27)).alloc (.cells #[.bool q, .slice b nb cb, .slice e0 ne ce] 27)).alloc (.cells #[.bool false, .slice none 0 0, .slice none 0 0] 27) = W0 at *
  obtain ⟨t, qt⟩ : ∃ t, t = cs r s := ⟨_, rfl⟩
  have ht : 0 < t := by rw [qt, cs_gt]; exact hrs
  have Qt : Hid (t = cs r s) := qt
  clear qt
  refine (cmpD t _ hr hs (by omega) hS1 hS1 Qt.out).mono ?_
  rintro e w1 ⟨rfl, hx⟩
  clear vac0 vac1 vac2 vac3 vac4 vac5 vbc0 vbc1 vbc2 vbc3 vbc4 vbc5
  replace hr := hr.below hx
  replace hs := hs.below hx
  replace VA := VA.below hx
  replace VB := VB.below hx
  replace R0 := R0.below hx
  replace hb0 := bel_tr hb0 hx
  replace hsz := Nat.le_trans hsz (Below.size hx)
  clear hx
  obtain ⟨z0, z1, z2, z3, z4, z5⟩ := id R0
  obtain ⟨VV, O⟩ := R0.set (.bool false) (.slice none 0 0) (.slice none 0 0)
  have hw := hb0.trans (O.below (by omega))
  clear R0 O hb0
  go_wp2
  refine bodyPost_ret (v := .tuple #[.agg #[.bool false, .slice none 0 0, .slice none 0 0], .int .i64 1]) (by simp [results, Tryz.results6, go_sem, VV.c0, VV.c1, VV.c2]) rfl ⟨rfl, hw⟩
set_option maxRecDepth 100000 in
set_option maxHeartbeats 8000000 in
/-- the document's Simplest, about nought -/
theorem simplestDZ {p q : Bool} {a b : Option Addr} {na nb ca cb : Nat} {d e0 : Option Addr} {nd ne cd ce : Nat} {r s : Rat} {S : Nat} (w : World) (hr : TR w p a na ca d nd cd r S) (hs : TR w q b nb cb e0 ne ce s S) (hS : S ≤ 1100000) (hS1 : 1 ≤ S) (hr0 : r ≤ 0) (hs0 : 0 ≤ s) :
    Calls Tryz.prog 6 #[.agg #[.bool p, .slice a na ca, .slice d nd cd], .agg #[.bool q, .slice b nb cb, .slice e0 ne ce]] w fun e w' => ∃ f c n k c' n' k' z, e = .returned (.tuple #[.agg #[.bool f, .slice c n k, .slice c' n' k'], .int .i64 0]) ∧ GR w' w.heap.size f c n k c' n' k' z S ∧ Best r s z ∧ Below w.heap.size w w' := by
  have hrs : r ≤ s := Rat.le_trans hr0 hs0
  have HBest : Hid (Best r s ((0 : Int) : Rat)) := Best.zero hr0 hs0
  obtain ⟨VA, VB, R0, hb0, hsz⟩ := box_rrr w (.bool p) (.slice a na ca) (.slice d nd cd) (.bool q) (.slice b nb cb) (.slice e0 ne ce) (.bool false) (.slice none 0 0) (.slice none 0 0) 27
  replace hsz := Nat.le_of_eq hsz.symm
  replace hr := hr.below hb0
  replace hs := hs.below hb0
  go_enter Tryz.func6, Tryz.ntmps6
  obtain ⟨vac0, vac1, vac2, vac3, vac4, vac5⟩ := id VA
  obtain ⟨vbc0, vbc1, vbc2, vbc3, vbc4, vbc5⟩ := id VB
  go_wp2_with fail
  generalize ((w.alloc (.cells #[.bool p, .slice a na ca, .slice d nd cd] 27)).alloc (.cells #[.bool q, .slice b nb cb, .slice e0 ne ce] 27)).alloc (.cells #[.bool false, .slice none 0 0, .slice none 0 0] 27) = W0 at *
  obtain ⟨t, qt⟩ : ∃ t, t = cs r s := ⟨_, rfl⟩
  have ht : ¬ 0 < t := by rw [qt, cs_gt]; exact Rat.not_lt.2 hrs
  have Qt : Hid (t = cs r s) := qt
  clear qt
  refine (cmpD t _ hr hs (by omega) hS1 hS1 Qt.out).mono ?_
  rintro e w1 ⟨rfl, hx⟩
  clear vac0 vac1 vac2 vac3 vac4 vac5 vbc0 vbc1 vbc2 vbc3 vbc4 vbc5
  replace hr := hr.below hx
  replace hs := hs.below hx
  replace VA := VA.below hx
  replace VB := VB.below hx
  replace R0 := R0.below hx
  replace hb0 := bel_tr hb0 hx
  replace hsz := Nat.le_trans hsz (Below.size hx)
  clear hx
  obtain ⟨vac0, vac1, vac2, vac3, vac4, vac5⟩ := id VA
  go_wp2_with fail
  obtain ⟨u, qu⟩ : ∃ t, t = r.num.sign := ⟨_, rfl⟩
  have hu : u ≤ 0 := by rw [qu]; have := sign_pos_iff (a := r.num); have h2 : ¬ 0 < r.num := fun h => absurd (num_pos_iff.1 h) (Rat.not_lt.2 hr0); omega
  have Qu : Hid (u = r.num.sign) := qu
  clear qu
  refine (signB u _ hr (by omega) hS1 Qu.out).mono ?_
  rintro e w2 ⟨rfl, hx⟩
  clear vac0 vac1 vac2 vac3 vac4 vac5
  replace hr := hr.below hx
  replace hs := hs.below hx
  replace VA := VA.below hx
  replace VB := VB.below hx
  replace R0 := R0.below hx
  replace hb0 := bel_tr hb0 hx
  replace hsz := Nat.le_trans hsz (Below.size hx)
  clear hx
  obtain ⟨vbc0, vbc1, vbc2, vbc3, vbc4, vbc5⟩ := id VB
  go_wp2_with fail
  obtain ⟨v, qv⟩ : ∃ t, t = s.num.sign := ⟨_, rfl⟩
  have hv : 0 ≤ v := by rw [qv]; have := sign_neg_iff (a := s.num); have h2 : ¬ s.num < 0 := fun h => absurd (num_neg_iff.1 h) (Rat.not_lt.2 hs0); omega
  have Qv : Hid (v = s.num.sign) := qv
  clear qv
  refine (signB v _ hs (by omega) hS1 Qv.out).mono ?_
  rintro e w3 ⟨rfl, hx⟩
  clear vbc0 vbc1 vbc2 vbc3 vbc4 vbc5
  replace hr := hr.below hx
  replace hs := hs.below hx
  replace VA := VA.below hx
  replace VB := VB.below hx
  replace R0 := R0.below hx
  replace hb0 := bel_tr hb0 hx
  replace hsz := Nat.le_trans hsz (Below.size hx)
  clear hx
  go_wp2_with fail
  refine (ofD 0 _ (by decide) (by decide)).mono ?_
  rintro e w4 ⟨fu, cu, nu, ku, du, mu, lu, rfl, Gu, hx⟩
  replace Gu := Gu.mono hsz
  replace hr := hr.below hx
  replace hs := hs.below hx
  replace VA := VA.below hx
  replace VB := VB.below hx
  replace R0 := R0.below hx
  replace hb0 := bel_tr hb0 hx
  replace hsz := Nat.le_trans hsz (Below.size hx)
  clear hx
  replace Gu := Gu.le (S' := S) hS1
  obtain ⟨z0, z1, z2, z3, z4, z5⟩ := id R0
  obtain ⟨VV, O⟩ := R0.set (.bool fu) (.slice cu nu ku) (.slice du mu lu)
  have GF := (Gu.off O (by omega)).mono (B' := w.heap.size) (by omega)
  have hw := hb0.trans (O.below (by omega))
  clear R0 O hb0
  go_wp2
  refine bodyPost_ret (v := .tuple #[.agg #[.bool fu, .slice cu nu ku, .slice du mu lu], .int .i64 0]) (by simp [results, Tryz.results6, go_sem, VV.c0, VV.c1, VV.c2]) rfl ⟨_, _, _, _, _, _, _, _, rfl, GF, HBest.out, hw⟩
set_option maxRecDepth 100000 in
set_option maxHeartbeats 8000000 in
/-- the document's Simplest, above nought -/
theorem simplestDP {p q : Bool} {a b : Option Addr} {na nb ca cb : Nat} {d e0 : Option Addr} {nd ne cd ce : Nat} {r s : Rat} {S : Nat} (w : World) (hr : TR w p a na ca d nd cd r S) (hs : TR w q b nb cb e0 ne ce s S) (hS : S ≤ 1100000) (hS1 : 1 ≤ S) (hrs : r ≤ s) (hr0 : 0 < r) :
    Calls Tryz.prog 6 #[.agg #[.bool p, .slice a na ca, .slice d nd cd], .agg #[.bool q, .slice b nb cb, .slice e0 ne ce]] w fun e w' => ∃ f c n k c' n' k' z, e = .returned (.tuple #[.agg #[.bool f, .slice c n k, .slice c' n' k'], .int .i64 0]) ∧ GR w' w.heap.size f c n k c' n' k' z S ∧ Best r s z ∧ Below w.heap.size w w' := by
  obtain ⟨VA, VB, R0, hb0, hsz⟩ := box_rrr w (.bool p) (.slice a na ca) (.slice d nd cd) (.bool q) (.slice b nb cb) (.slice e0 ne ce) (.bool false) (.slice none 0 0) (.slice none 0 0) 27
  replace hsz := Nat.le_of_eq hsz.symm
  replace hr := hr.below hb0
  replace hs := hs.below hb0
  go_enter Tryz.func6, Tryz.ntmps6
  obtain ⟨vac0, vac1, vac2, vac3, vac4, vac5⟩ := id VA
  obtain ⟨vbc0, vbc1, vbc2, vbc3, vbc4, vbc5⟩ := id VB
  go_wp2_with fail
  generalize ((w.alloc (.cells #[.bool p, .slice a na ca, .slice d nd cd] 27)).alloc (.cells #[.bool q, .slice b nb cb, .slice e0 ne ce] 27)).alloc (.cells #[.bool false, .slice none 0 0, .slice none 0 0] 27) = W0 at *
  obtain ⟨t, qt⟩ : ∃ t, t = cs r s := ⟨_, rfl⟩
  have ht : ¬ 0 < t := by rw [qt, cs_gt]; exact Rat.not_lt.2 hrs
  have Qt : Hid (t = cs r s) := qt
  clear qt
  refine (cmpD t _ hr hs (by omega) hS1 hS1 Qt.out).mono ?_
  rintro e w1 ⟨rfl, hx⟩
  clear vac0 vac1 vac2 vac3 vac4 vac5 vbc0 vbc1 vbc2 vbc3 vbc4 vbc5
  replace hr := hr.below hx
  replace hs := hs.below hx
  replace VA := VA.below hx
  replace VB := VB.below hx
  replace R0 := R0.below hx
  replace hb0 := bel_tr hb0 hx
  replace hsz := Nat.le_trans hsz (Below.size hx)
  clear hx
  obtain ⟨vac0, vac1, vac2, vac3, vac4, vac5⟩ := id VA
  have hs0 : 0 < s := by
    rcases Decidable.em (0 < s) with h7 | h7
    · exact h7
    · exact absurd (Rat.le_trans hrs (Rat.not_lt.1 h7)) (Rat.not_le.2 hr0)
  go_wp2_with fail
  obtain ⟨u, qu⟩ : ∃ t, t = r.num.sign := ⟨_, rfl⟩
  have hu : ¬ u ≤ 0 := by rw [qu]; have := sign_pos_iff (a := r.num); have h2 := num_pos_iff.2 hr0; omega
  have Qu : Hid (u = r.num.sign) := qu
  clear qu
  refine (signB u _ hr (by omega) hS1 Qu.out).mono ?_
  rintro e w2 ⟨rfl, hx⟩
  clear vac0 vac1 vac2 vac3 vac4 vac5
  replace hr := hr.below hx
  replace hs := hs.below hx
  replace VA := VA.below hx
  replace VB := VB.below hx
  replace R0 := R0.below hx
  replace hb0 := bel_tr hb0 hx
  replace hsz := Nat.le_trans hsz (Below.size hx)
  clear hx
  obtain ⟨vbc0, vbc1, vbc2, vbc3, vbc4, vbc5⟩ := id VB
  go_wp2_with fail
  obtain ⟨v, qv⟩ : ∃ t, t = s.num.sign := ⟨_, rfl⟩
  have hv : ¬ v < 0 := by rw [qv]; have := sign_neg_iff (a := s.num); have h2 := num_pos_iff.2 hs0; omega
  have Qv : Hid (v = s.num.sign) := qv
  clear qv
  refine (signB v _ hs (by omega) hS1 Qv.out).mono ?_
  rintro e w3 ⟨rfl, hx⟩
  clear vbc0 vbc1 vbc2 vbc3 vbc4 vbc5
  replace hr := hr.below hx
  replace hs := hs.below hx
  replace VA := VA.below hx
  replace VB := VB.below hx
  replace R0 := R0.below hx
  replace hb0 := bel_tr hb0 hx
  replace hsz := Nat.le_trans hsz (Below.size hx)
  clear hx
  obtain ⟨vac0, vac1, vac2, vac3, vac4, vac5⟩ := id VA
  obtain ⟨vbc0, vbc1, vbc2, vbc3, vbc4, vbc5⟩ := id VB
  go_wp2_with fail
  refine (simplestD _ _ hr hs hS hS1 hr0 hrs (Nat.le_refl _)).mono ?_
  rintro e w4 ⟨fu, cu, nu, ku, du, mu, lu, zz, rfl, Gu, hB, hx⟩
  replace Gu := Gu.mono hsz
  clear vac0 vac1 vac2 vac3 vac4 vac5 vbc0 vbc1 vbc2 vbc3 vbc4 vbc5
  replace hr := hr.below hx
  replace hs := hs.below hx
  replace VA := VA.below hx
  replace VB := VB.below hx
  replace R0 := R0.below hx
  replace hb0 := bel_tr hb0 hx
  replace hsz := Nat.le_trans hsz (Below.size hx)
  clear hx
  have HBest : Hid (Best r s zz) := hB
  clear hB
  obtain ⟨z0, z1, z2, z3, z4, z5⟩ := id R0
  obtain ⟨VV, O⟩ := R0.set (.bool fu) (.slice cu nu ku) (.slice du mu lu)
  have GF := (Gu.off O (by omega)).mono (B' := w.heap.size) (by omega)
  have hw := hb0.trans (O.below (by omega))
  clear R0 O hb0
  go_wp2
  refine bodyPost_ret (v := .tuple #[.agg #[.bool fu, .slice cu nu ku, .slice du mu lu], .int .i64 0]) (by simp [results, Tryz.results6, go_sem, VV.c0, VV.c1, VV.c2]) rfl ⟨_, _, _, _, _, _, _, _, rfl, GF, HBest.out, hw⟩
set_option maxRecDepth 100000 in
set_option maxHeartbeats 8000000 in
/-- the document's Simplest, below nought -/
theorem simplestDN {p q : Bool} {a b : Option Addr} {na nb ca cb : Nat} {d e0 : Option Addr} {nd ne cd ce : Nat} {r s : Rat} {S : Nat} (w : World) (hr : TR w p a na ca d nd cd r S) (hs : TR w q b nb cb e0 ne ce s S) (hS : S ≤ 1100000) (hS1 : 1 ≤ S) (hrs : r ≤ s) (hs0 : s < 0) :
    Calls Tryz.prog 6 #[.agg #[.bool p, .slice a na ca, .slice d nd cd], .agg #[.bool q, .slice b nb cb, .slice e0 ne ce]] w fun e w' => ∃ f c n k c' n' k' z, e = .returned (.tuple #[.agg #[.bool f, .slice c n k, .slice c' n' k'], .int .i64 0]) ∧ GR w' w.heap.size f c n k c' n' k' z S ∧ Best r s z ∧ Below w.heap.size w w' := by
  have hr0 : r ≤ 0 := Rat.le_trans hrs (Rat.le_of_lt hs0)
  have hn0 : 0 < -s := by have := Rat.neg_lt_neg hs0; rwa [Rat.neg_zero] at this
  have hn1 : -s ≤ -r := Rat.neg_le_neg hrs
  obtain ⟨VA, VB, R0, hb0, hsz⟩ := box_rrr w (.bool p) (.slice a na ca) (.slice d nd cd) (.bool q) (.slice b nb cb) (.slice e0 ne ce) (.bool false) (.slice none 0 0) (.slice none 0 0) 27
  replace hsz := Nat.le_of_eq hsz.symm
  replace hr := hr.below hb0
  replace hs := hs.below hb0
  go_enter Tryz.func6, Tryz.ntmps6
  obtain ⟨vac0, vac1, vac2, vac3, vac4, vac5⟩ := id VA
  obtain ⟨vbc0, vbc1, vbc2, vbc3, vbc4, vbc5⟩ := id VB
  go_wp2_with fail
  generalize ((w.alloc (.cells #[.bool p, .slice a na ca, .slice d nd cd] 27)).alloc (.cells #[.bool q, .slice b nb cb, .slice e0 ne ce] 27)).alloc (.cells #[.bool false, .slice none 0 0, .slice none 0 0] 27) = W0 at *
  obtain ⟨t, qt⟩ : ∃ t, t = cs r s := ⟨_, rfl⟩
  have ht : ¬ 0 < t := by rw [qt, cs_gt]; exact Rat.not_lt.2 hrs
  have Qt : Hid (t = cs r s) := qt
  clear qt
  refine (cmpD t _ hr hs (by omega) hS1 hS1 Qt.out).mono ?_
  rintro e w1 ⟨rfl, hx⟩
  clear vac0 vac1 vac2 vac3 vac4 vac5 vbc0 vbc1 vbc2 vbc3 vbc4 vbc5
  replace hr := hr.below hx
  replace hs := hs.below hx
  replace VA := VA.below hx
  replace VB := VB.below hx
  replace R0 := R0.below hx
  replace hb0 := bel_tr hb0 hx
  replace hsz := Nat.le_trans hsz (Below.size hx)
  clear hx
  obtain ⟨vac0, vac1, vac2, vac3, vac4, vac5⟩ := id VA
  go_wp2_with fail
  obtain ⟨u, qu⟩ : ∃ t, t = r.num.sign := ⟨_, rfl⟩
  have hu : u ≤ 0 := by rw [qu]; have := sign_pos_iff (a := r.num); have h2 : ¬ 0 < r.num := fun h => absurd (num_pos_iff.1 h) (Rat.not_lt.2 hr0); omega
  have Qu : Hid (u = r.num.sign) := qu
  clear qu
  refine (signB u _ hr (by omega) hS1 Qu.out).mono ?_
  rintro e w2 ⟨rfl, hx⟩
  clear vac0 vac1 vac2 vac3 vac4 vac5
  replace hr := hr.below hx
  replace hs := hs.below hx
  replace VA := VA.below hx
  replace VB := VB.below hx
  replace R0 := R0.below hx
  replace hb0 := bel_tr hb0 hx
  replace hsz := Nat.le_trans hsz (Below.size hx)
  clear hx
  obtain ⟨vbc0, vbc1, vbc2, vbc3, vbc4, vbc5⟩ := id VB
  go_wp2_with fail
  obtain ⟨v, qv⟩ : ∃ t, t = s.num.sign := ⟨_, rfl⟩
  have hv : v < 0 := by rw [qv]; have := sign_neg_iff (a := s.num); have h2 := num_neg_iff.2 hs0; omega
  have Qv : Hid (v = s.num.sign) := qv
  clear qv
  refine (signB v _ hs (by omega) hS1 Qv.out).mono ?_
  rintro e w3 ⟨rfl, hx⟩
  clear vbc0 vbc1 vbc2 vbc3 vbc4 vbc5
  replace hr := hr.below hx
  replace hs := hs.below hx
  replace VA := VA.below hx
  replace VB := VB.below hx
  replace R0 := R0.below hx
  replace hb0 := bel_tr hb0 hx
  replace hsz := Nat.le_trans hsz (Below.size hx)
  clear hx
  have hv2 : ¬ 0 ≤ v := by omega
  obtain ⟨vbc0, vbc1, vbc2, vbc3, vbc4, vbc5⟩ := id VB
  go_wp2_with fail
  refine (negD _ hs (by omega) hS1).mono ?_
  rintro e w4 ⟨fa, ca, na, ka, da, ma, la, rfl, Ga, hx⟩
  replace Ga := Ga.mono hsz
  clear vbc0 vbc1 vbc2 vbc3 vbc4 vbc5
  replace hr := hr.below hx
  replace hs := hs.below hx
  replace VA := VA.below hx
  replace VB := VB.below hx
  replace R0 := R0.below hx
  replace hb0 := bel_tr hb0 hx
  replace hsz := Nat.le_trans hsz (Below.size hx)
  clear hx
  have hx := bel_d0 w4 (.cells #[.bool fa, .slice ca na ka, .slice da ma la] 27)
  replace hr := hr.below hx
  replace hs := hs.below hx
  replace Ga := Ga.below hx
  replace VA := VA.below hx
  replace VB := VB.below hx
  replace R0 := R0.below hx
  replace hb0 := bel_tr hb0 hx
  replace hsz := Nat.le_trans hsz (Below.size hx)
  have Va := var3_new w4 (.bool fa) (.slice ca na ka) (.slice da ma la) 27
  clear hx
  obtain ⟨vac0, vac1, vac2, vac3, vac4, vac5⟩ := id VA
  go_wp2_with fail
  generalize w4.alloc (.cells #[.bool fa, .slice ca na ka, .slice da ma la] 27) = w5 at *
  refine (negD _ hr (by omega) hS1).mono ?_
  rintro e w6 ⟨fb, cb, nb, kb, db, mb, lb, rfl, Gb, hx⟩
  replace Gb := Gb.mono hsz
  clear vac0 vac1 vac2 vac3 vac4 vac5
  replace hr := hr.below hx
  replace hs := hs.below hx
  replace Ga := Ga.below hx
  replace VA := VA.below hx
  replace VB := VB.below hx
  replace R0 := R0.below hx
  replace Va := Va.below hx
  replace hb0 := bel_tr hb0 hx
  replace hsz := Nat.le_trans hsz (Below.size hx)
  clear hx
  have hx := bel_d0 w6 (.cells #[.bool fb, .slice cb nb kb, .slice db mb lb] 27)
  replace hr := hr.below hx
  replace hs := hs.below hx
  replace Ga := Ga.below hx
  replace Gb := Gb.below hx
  replace VA := VA.below hx
  replace VB := VB.below hx
  replace R0 := R0.below hx
  replace Va := Va.below hx
  replace hb0 := bel_tr hb0 hx
  replace hsz := Nat.le_trans hsz (Below.size hx)
  have Vb := var3_new w6 (.bool fb) (.slice cb nb kb) (.slice db mb lb) 27
  clear hx
  obtain ⟨vac0, vac1, vac2, vac3, vac4, vac5⟩ := id Va
  obtain ⟨vbc0, vbc1, vbc2, vbc3, vbc4, vbc5⟩ := id Vb
  go_wp2_with fail
  generalize w6.alloc (.cells #[.bool fb, .slice cb nb kb, .slice db mb lb] 27) = w7 at *
  refine (simplestD _ _ Ga.tr Gb.tr hS hS1 hn0 hn1 (Nat.le_refl _)).mono ?_
  rintro e w8 ⟨fx, cx, nx, kx, dx, mx, lx, zz, rfl, Gx, hB, hx⟩
  replace Gx := Gx.mono hsz
  clear vac0 vac1 vac2 vac3 vac4 vac5 vbc0 vbc1 vbc2 vbc3 vbc4 vbc5
  replace hr := hr.below hx
  replace hs := hs.below hx
  replace Ga := Ga.below hx
  replace Gb := Gb.below hx
  replace VA := VA.below hx
  replace VB := VB.below hx
  replace R0 := R0.below hx
  replace Va := Va.below hx
  replace Vb := Vb.below hx
  replace hb0 := bel_tr hb0 hx
  replace hsz := Nat.le_trans hsz (Below.size hx)
  clear hx
  have HBest : Hid (Best r s (-zz)) := hB.neg
  clear hB
  have hx := bel_d0 w8 (.cells #[.bool fx, .slice cx nx kx, .slice dx mx lx] 27)
  replace hr := hr.below hx
  replace hs := hs.below hx
  replace Ga := Ga.below hx
  replace Gb := Gb.below hx
  replace Gx := Gx.below hx
  replace VA := VA.below hx
  replace VB := VB.below hx
  replace R0 := R0.below hx
  replace Va := Va.below hx
  replace Vb := Vb.below hx
  replace hb0 := bel_tr hb0 hx
  replace hsz := Nat.le_trans hsz (Below.size hx)
  have Vx := var3_new w8 (.bool fx) (.slice cx nx kx) (.slice dx mx lx) 27
  clear hx
  obtain ⟨vxc0, vxc1, vxc2, vxc3, vxc4, vxc5⟩ := id Vx
  go_wp2_with fail
  generalize w8.alloc (.cells #[.bool fx, .slice cx nx kx, .slice dx mx lx] 27) = w9 at *
  refine (negD _ Gx.tr (by omega) hS1).mono ?_
  rintro e w10 ⟨fu, cu, nu, ku, du, mu, lu, rfl, Gu, hx⟩
  replace Gu := Gu.mono hsz
  clear vxc0 vxc1 vxc2 vxc3 vxc4 vxc5
  replace hr := hr.below hx
  replace hs := hs.below hx
  replace Ga := Ga.below hx
  replace Gb := Gb.below hx
  replace Gx := Gx.below hx
  replace VA := VA.below hx
  replace VB := VB.below hx
  replace R0 := R0.below hx
  replace Va := Va.below hx
  replace Vb := Vb.below hx
  replace Vx := Vx.below hx
  replace hb0 := bel_tr hb0 hx
  replace hsz := Nat.le_trans hsz (Below.size hx)
  clear hx
  obtain ⟨z0, z1, z2, z3, z4, z5⟩ := id R0
  obtain ⟨VV, O⟩ := R0.set (.bool fu) (.slice cu nu ku) (.slice du mu lu)
  have GF := (Gu.off O (by omega)).mono (B' := w.heap.size) (by omega)
  have hw := hb0.trans (O.below (by omega))
  clear R0 O hb0
  go_wp2
  refine bodyPost_ret (v := .tuple #[.agg #[.bool fu, .slice cu nu ku, .slice du mu lu], .int .i64 0]) (by simp [results, Tryz.results6, go_sem, VV.c0, VV.c1, VV.c2]) rfl ⟨_, _, _, _, _, _, _, _, rfl, GF, HBest.out, hw⟩
/-- the document's Simplest -/
theorem simplestDQ {p q : Bool} {a b : Option Addr} {na nb ca cb : Nat} {d e0 : Option Addr} {nd ne cd ce : Nat} {r s : Rat} {S : Nat} (w : World) (hr : TR w p a na ca d nd cd r S) (hs : TR w q b nb cb e0 ne ce s S) (hS : S ≤ 1100000) (hS1 : 1 ≤ S) (hrs : r ≤ s) :
    Calls Tryz.prog 6 #[.agg #[.bool p, .slice a na ca, .slice d nd cd], .agg #[.bool q, .slice b nb cb, .slice e0 ne ce]] w fun e w' => ∃ f c n k c' n' k' z, e = .returned (.tuple #[.agg #[.bool f, .slice c n k, .slice c' n' k'], .int .i64 0]) ∧ GR w' w.heap.size f c n k c' n' k' z S ∧ Best r s z ∧ Below w.heap.size w w' := by
  rcases Decidable.em (0 < r) with h | h
  · exact simplestDP w hr hs hS hS1 hrs h
  · rcases Decidable.em (s < 0) with h2 | h2
    · exact simplestDN w hr hs hS hS1 hrs h2
    · exact simplestDZ w hr hs hS hS1 (Rat.not_lt.1 h) (Rat.not_lt.1 h2)
end Go.Proofs.YtfaccnmiopcneaaGreatDoor

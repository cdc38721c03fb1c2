import Derived.Test.YtjapbhdoemfgkaaGreatDoorWdAll
import Derived.Test.YtjapbhdoemfgkaaGreatDoorPuAAll
import Derived.Test.YtjapbhdoemfgkaaGreatDoorPqF
import Derived.Test.YtjapbhdoemfgkaaGreatDoorPvCAll
import Derived.Test.YtjapbhdoemfgkaaGreatDoorQ3OAll
import Derived.Test.YtjapbhdoemfgkaaGreatDoorRwA
namespace Go.Proofs.YtjapbhdoemfgkaaGreatDoor
open Go.RowKit

theorem Wd.ov {d : Nat} {D : Int} {r : Rat} (h : Wd d D r) : Ov D (pw d) r := by
  obtain ⟨h1, _, m, h3, h4⟩ := h
  refine ⟨m, h3, ?_⟩
  have h5 : pw d * 1 ≤ pw d * D := Int.mul_le_mul_of_nonneg_left (by omega) (Int.le_of_lt (pw_pos d))
  omega
theorem pw_up (K : Nat) : pw K < pw (K + 1) := by have := pw_succ K; have := pw_pos K; omega
/-- A list, nought beyond its end, over one number. -/
theorem Wd.xn {X : Nat → Rat} {n d : Nat} {D : Int} (hD : 0 < D) (hd : D < pw d) (h : ∀ j, j < n → Wd d D (X j)) (j : Nat) : Wd d D (xn X n j) := by
  unfold Go.Proofs.YtjapbhdoemfgkaaGreatDoor.xn
  split
  · exact h j (by assumption)
  · exact Wd.zero hD hd
/-- A value, summand by summand. -/
theorem PQ.val_sz3 {w : World} {P : Prob} (hP : PQ w P) {n Kx : Nat} {X : Nat → Rat} {Dx : Int} (dx1 : 0 < Dx) (dx2 : Dx < pw Kx) (dx3 : ∀ j, j < n → Wd Kx Dx (X j)) (hK : P.K ≤ 1048576) : ∀ k, k ≤ P.vn + 1 → SzR (rsum (prt P.k P.V (xn X n)) k) (P.K + Kx + 1) := by
  intro k hk
  have hall := hP.all
  have hl := tot_len P.ZV P.vn
  obtain ⟨Do, o1, o2, o3⟩ := Wd.list (X := fun j => (P.V j).obj) (Z := P.ZV) (n := P.vn) (K := tot P.ZV P.vn) (fun j hj => by
    obtain ⟨b, o, hV⟩ := hP.var hj
    exact hV.sobj) (Nat.le_refl _)
  have hs := Wd.self hP.sk
  have k1 := hs.1
  have k2 := hs.2.1
  generalize (P.k.den : Int) = Dk at *
  have q := mul_pw (Int.le_of_lt o1) o2 (Int.le_of_lt dx1) dx2
  have q0 : 0 < Do * Dx := Int.mul_pos o1 dx1
  have q2 := mul_pw (Int.le_of_lt k1) k2 q.2 q.1
  have h4 := Wd.sum (Y := prt P.k P.V (xn X n)) (n := P.vn + 1) (D := Dk * (Do * Dx)) (Int.mul_pos k1 q0) q2.1 (fun j hj => by
    cases j with
    | zero => exact (hs.lift q0 q.1)
    | succ j => exact ((o3 j (by omega)).mul (Wd.xn dx1 dx2 dx3 _)).lift' k1 k2) (by omega) k hk
  exact (h4.up (show _ ≤ P.K + Kx + 1 by omega)).sz (by omega)
/-- model.Holds. -/
theorem holdQ2 (P : Prob) {xa : Option Addr} {nx xc : Nat} {X : Nat → Rat} {Zx : Nat → Nat} {Kx : Nat} (w : World) (hP : PQ w P) (hx : LQ w xa nx X Zx) (hzx : ∀ i, i < nx → 1 ≤ Zx i ∧ SzR (X i) (Zx i)) (htx : tot Zx nx ≤ Kx) (hxc : nx ≤ xc) (hK : P.K + Kx ≤ 1048576) (hT : TB w) :
    Calls Tryz.prog 35 #[P.val, .slice xa nx xc] w fun e w' => ∃ b, e = .returned (.bool b) ∧ (b = true ↔ Hlds P nx X) ∧ Below w.heap.size w w' := by
  obtain ⟨Dx, dx1, dx2, dx3⟩ := Wd.list (fun i hi => (hzx i hi).2) htx
  have hZx : ∀ j, j < nx → Zx j ≤ Kx := fun j hj => by have := tot_le (Z := Zx) hj; omega
  have hZR : ∀ i, i < P.rn → P.ZR i ≤ P.K := fun i hi => by have := tot_le (Z := P.ZR) hi; have := hP.all; omega
  exact holdsQ P (T := 2097160) (S := 3145736) (dx := Kx) (ax := Kx + 1) w hP hx hxc (fun j hj => ⟨(hzx j (by omega)).1, by have := hZx j (by omega); omega⟩) (fun i j hi hj => ⟨(hzx j (by omega)).1, by have := hZR i hi; have := hZx j (by omega); omega⟩) (by omega) (by omega) dx1 dx2 (Int.le_of_lt (pw_pos _)) (pw_up _) (fun j hj => (dx3 j (by omega)).ov) (fun i hi => by have := hZR i hi; omega) (by omega) (by omega) hT
theorem vlu_xn (P : Prob) (X : Nat → Rat) {n : Nat} (h : P.vn ≤ n) : vlu P (xn X n) = vlu P X := by
  rw [vlu_eq, vlu_eq]
  congr 1
  exact rsum_congr fun j hj => by unfold xn; rw [if_pos (by omega)]
/-- model.Value at a list of as many numbers as there are variables. -/
theorem valQ2 (P : Prob) {xa : Option Addr} {nx xc : Nat} {X : Nat → Rat} {Zx : Nat → Nat} {Kx : Nat} (w : World) (hP : PQ w P) (hx : LQ w xa nx X Zx) (hzx : ∀ i, i < nx → 1 ≤ Zx i ∧ SzR (X i) (Zx i)) (htx : tot Zx nx ≤ Kx) (hxc : nx ≤ xc) (hn : nx = P.vn) (hK : P.K + Kx ≤ 1048576) (hT : TB w) :
    Calls Tryz.prog 37 #[P.val, .slice xa nx xc] w fun e w' => ∃ f c n1 k1 c' n' k', e = .returned (.agg #[.bool f, .slice c n1 k1, .slice c' n' k']) ∧ GR w' w.heap.size f c n1 k1 c' n' k' (vlu P X) 2097160 ∧ Below w.heap.size w w' := by
  subst hn
  obtain ⟨Dx, dx1, dx2, dx3⟩ := Wd.list (fun i hi => (hzx i hi).2) htx
  have hall := hP.all
  have hl := tot_len P.ZV P.vn
  have hk1 := tot_pos Zx P.vn
  have hS := hP.s1
  have hZV : ∀ i, i < P.vn → P.ZV i ≤ P.K := fun i hi => by have := tot_le (Z := P.ZV) hi; omega
  have hZx : ∀ j, j < P.vn → Zx j ≤ Kx := fun j hj => by have := tot_le (Z := Zx) hj; omega
  have e : ∀ q, q ≤ P.vn + 1 → rsum (prt P.k P.V X) q = rsum (prt P.k P.V (xn X P.vn)) q := fun q hq => rsum_congr fun j hj => by
    cases j with
    | zero => rfl
    | succ j => show (P.V j).obj * X j = (P.V j).obj * xn X P.vn j; unfold xn; rw [if_pos (by omega)]
  exact valueQ P (T := 2097160) (S := P.K + Kx) (m := P.vn) w hP hx hxc (by omega) (by omega) (fun j hj => ⟨(hzx j hj).1, by have := hZV j hj; have := hZx j hj; omega⟩) (by omega) (by omega) (fun q hq => by rw [e q hq]; exact (hP.val_sz3 dx1 dx2 dx3 (by omega) q hq).le (by omega)) (by omega) hT
end Go.Proofs.YtjapbhdoemfgkaaGreatDoor

namespace Go.Proofs.YtjapbhdoemfgkaaGreatDoor
open Go.RowKit

/-- A certificate, as it is told. -/
structure Crt where
  vd : Int
  p : Bool
  a : Option Addr
  na : Nat
  ca : Nat
  d : Option Addr
  nd : Nat
  cd : Nat
  xa : Option Addr
  xn : Nat
  xc : Nat
  ya : Option Addr
  yn : Nat
  yc : Nat
  za : Option Addr
  zn : Nat
  zc : Nat
  v : Rat
  X : Nat → Rat
  Y : Nat → Rat
  Z : Nat → Rat
  ZX : Nat → Nat
  ZY : Nat → Nat
  ZZ : Nat → Nat
  S : Nat
  K : Nat
abbrev Crt.val (C : Crt) : Value := .agg #[.int .i64 C.vd, .bool C.p, .slice C.a C.na C.ca, .slice C.d C.nd C.cd, .slice C.xa C.xn C.xc, .slice C.ya C.yn C.yc, .slice C.za C.zn C.zc]
structure CQ (w : World) (C : Crt) : Prop where
  v : TR w C.p C.a C.na C.ca C.d C.nd C.cd C.v C.S
  s1 : 1 ≤ C.S
  sv : SzR C.v C.S
  x : LQ w C.xa C.xn C.X C.ZX
  zx : ∀ i, i < C.xn → 1 ≤ C.ZX i ∧ SzR (C.X i) (C.ZX i)
  y : LQ w C.ya C.yn C.Y C.ZY
  zy : ∀ i, i < C.yn → 1 ≤ C.ZY i ∧ SzR (C.Y i) (C.ZY i)
  z : LQ w C.za C.zn C.Z C.ZZ
  zz : ∀ i, i < C.zn → 1 ≤ C.ZZ i ∧ SzR (C.Z i) (C.ZZ i)
  all : C.S + tot C.ZX C.xn + tot C.ZY C.yn + tot C.ZZ C.zn ≤ C.K
  xc : C.xn ≤ C.xc
  zc : C.zn ≤ C.zc
theorem CQ.below {w w' : World} {C : Crt} (h : CQ w C) (hb : Below w.heap.size w w') : CQ w' C := ⟨h.v.below hb, h.s1, h.sv, h.x.below hb, h.zx, h.y.below hb, h.zy, h.z.below hb, h.zz, h.all, h.xc, h.zc⟩
/-- The errors of the checker. -/
structure EE (w : World) (eS eP eV eB eR eD : Value) : Prop where
  s : Errs w 3 eS
  p : Errs w 4 eP
  v : Errs w 0 eV
  b : Errs w 1 eB
  r : Errs w 5 eR
  d : Errs w 2 eD
theorem EE.below {w w' : World} {eS eP eV eB eR eD : Value} (h : EE w eS eP eV eB eR eD) (hb : Below w.heap.size w w') : EE w' eS eP eV eB eR eD := ⟨h.s.below hb, h.p.below hb, h.v.below hb, h.b.below hb, h.r.below hb, h.d.below hb⟩
theorem cs_zero {r s : Rat} : cs r s = 0 ↔ r = s := by
  have h1 := cs_lt_iff (r := r) (s := s)
  have h2 := cs_gt_iff (r := r) (s := s)
  constructor
  · intro h
    have : ¬ r < s := fun k => by have := h1.2 k; omega
    have : ¬ s < r := fun k => by have := h2.2 k; omega
    grind
  · rintro rfl
    have : ¬ cs r r < 0 := fun k => by have := h1.1 k; grind
    have : ¬ 0 < cs r r := fun k => by have := h2.1 k; grind
    omega
/-- What checkOptimal answers. -/
def OptR (P : Prob) (C : Crt) (eS eP eV eB : Value) (w : World) (e : Ending) (w' : World) : Prop :=
  Below w.heap.size w w' ∧ ((¬ (C.xn = P.vn ∧ C.yn = P.rn) ∧ e = .returned eS) ∨ (C.xn = P.vn ∧ C.yn = P.rn ∧ ((¬ Hlds P C.xn C.X ∧ e = .returned eP) ∨ (Hlds P C.xn C.X ∧ ((vlu P C.X ≠ C.v ∧ e = .returned eV) ∨ (vlu P C.X = C.v ∧ ((¬ (okS P C.Y ∧ pvS P C.Y = C.v) ∧ e = .returned eB) ∨ (okS P C.Y ∧ pvS P C.Y = C.v ∧ e = .returned .nilIface))))))))
set_option maxRecDepth 100000 in
set_option maxHeartbeats 16000000 in
/-- check.checkOptimal. -/
theorem optQ (P : Prob) (C : Crt) (w : World) (hP : PQ w P) (hC : CQ w C) (hK : P.K + C.K ≤ 1048576) (hT : TB w) {eS eP eV eB eR eD : Value} (EH : EE w eS eP eV eB eR eD) :
    Calls Tryz.prog 15 #[P.val, C.val] w fun e w' => OptR P C eS eP eV eB w e w' := by
  unfold Prob.val Crt.val
  have Pb := box_new w #[.bool P.mx, .string P.nm, .bool P.p, .slice P.a P.na P.ca, .slice P.d P.nd P.cd, .slice P.va P.vn P.vc, .slice P.ra P.rn P.rc] 32
  have hz0 := bel_d0 w (.cells #[.bool P.mx, .string P.nm, .bool P.p, .slice P.a P.na P.ca, .slice P.d P.nd P.cd, .slice P.va P.vn P.vc, .slice P.ra P.rn P.rc] 32)
  have hs0 : (w.alloc (.cells #[.bool P.mx, .string P.nm, .bool P.p, .slice P.a P.na P.ca, .slice P.d P.nd P.cd, .slice P.va P.vn P.vc, .slice P.ra P.rn P.rc] 32)).heap.size = w.heap.size + 1 := by simp
  have Cb := box_new (w.alloc (.cells #[.bool P.mx, .string P.nm, .bool P.p, .slice P.a P.na P.ca, .slice P.d P.nd P.cd, .slice P.va P.vn P.vc, .slice P.ra P.rn P.rc] 32)) #[.int .i64 C.vd, .bool C.p, .slice C.a C.na C.ca, .slice C.d C.nd C.cd, .slice C.xa C.xn C.xc, .slice C.ya C.yn C.yc, .slice C.za C.zn C.zc] 35
  have hz1 := bel_d0 (w.alloc (.cells #[.bool P.mx, .string P.nm, .bool P.p, .slice P.a P.na P.ca, .slice P.d P.nd P.cd, .slice P.va P.vn P.vc, .slice P.ra P.rn P.rc] 32)) (.cells #[.int .i64 C.vd, .bool C.p, .slice C.a C.na C.ca, .slice C.d C.nd C.cd, .slice C.xa C.xn C.xc, .slice C.ya C.yn C.yc, .slice C.za C.zn C.zc] 35)
  have hs1 : ((w.alloc (.cells #[.bool P.mx, .string P.nm, .bool P.p, .slice P.a P.na P.ca, .slice P.d P.nd P.cd, .slice P.va P.vn P.vc, .slice P.ra P.rn P.rc] 32)).alloc (.cells #[.int .i64 C.vd, .bool C.p, .slice C.a C.na C.ca, .slice C.d C.nd C.cd, .slice C.xa C.xn C.xc, .slice C.ya C.yn C.yc, .slice C.za C.zn C.zc] 35)).heap.size = w.heap.size + 2 := by simp
  rw [hs0] at Cb
  replace Pb := Pb.below hz1
  have hb0 := bel_tr hz0 hz1
  have E0 := EH.below hb0
  have hall := hC.all
  have ht1 := tot_pos C.ZX C.xn
  have ht2 := tot_pos C.ZY C.yn
  have ht3 := tot_pos C.ZZ C.zn
  clear hz0 hz1 hs0
  have p0 := Pb 0 _ rfl
  have p1 := Pb 1 _ rfl
  have p2 := Pb 2 _ rfl
  have p3 := Pb 3 _ rfl
  have p4 := Pb 4 _ rfl
  have p5 := Pb 5 _ rfl
  have p6 := Pb 6 _ rfl
  have c4 := Cb 4 _ rfl
  have c5 := Cb 5 _ rfl
  go_enter Tryz.func15, Tryz.ntmps15
  by_cases hx : C.xn = P.vn
  · have hxI : (C.xn : Int) = (P.vn : Int) := by omega
    by_cases hy : C.yn = P.rn
    · have hyI : (C.yn : Int) = (P.rn : Int) := by omega
      have HX : Hid (C.xn = P.vn ∧ C.yn = P.rn) := ⟨hx, hy⟩
      clear hx hy
      go_wp2_with fail
      clear p0 p1 p2 p3 p4 p5 p6 c4 c5 hxI hyI
      generalize (w.alloc (.cells #[.bool P.mx, .string P.nm, .bool P.p, .slice P.a P.na P.ca, .slice P.d P.nd P.cd, .slice P.va P.vn P.vc, .slice P.ra P.rn P.rc] 32)).alloc (.cells #[.int .i64 C.vd, .bool C.p, .slice C.a C.na C.ca, .slice C.d C.nd C.cd, .slice C.xa C.xn C.xc, .slice C.ya C.yn C.yc, .slice C.za C.zn C.zc] 35) = W0 at *
      refine (holdQ2 P (Kx := C.K) W0 (hP.below hb0) (hC.x.below hb0) hC.zx (by omega) hC.xc (by omega) (hT.below hb0)).mono ?_
      rintro e w1 ⟨b, rfl, hb, h1⟩
      have hb1 := bel_tr hb0 h1
      replace Pb := Pb.below h1
      replace Cb := Cb.below h1
      have E1 := EH.below hb1
      have HH : Hid (b = true ↔ Hlds P C.xn C.X) := hb
      clear h1 hb E0 hb0
      cases b
      · obtain ⟨ec, pp, rfl⟩ := E1.p
        go_wp2
        go_ret
        exact ⟨hb1, .inr ⟨HX.out.1, HX.out.2, .inl ⟨fun h => (by have := HH.out.2 h; cases this), rfl⟩⟩⟩
      · have hH := HH.out.1 rfl
        have HL : Hid (Hlds P C.xn C.X) := hH
        clear hH HH
        go_wp2_with fail
        have HBX : ∀ w', Below w1.heap.size w1 w' → (w'.cell? ⟨w.heap.size, 0, none⟩ = some (.bool P.mx) ∧ w'.cell? ⟨w.heap.size, 1, none⟩ = some (.string P.nm) ∧ w'.cell? ⟨w.heap.size, 2, none⟩ = some (.bool P.p) ∧ w'.cell? ⟨w.heap.size, 3, none⟩ = some (.slice P.a P.na P.ca) ∧ w'.cell? ⟨w.heap.size, 4, none⟩ = some (.slice P.d P.nd P.cd) ∧ w'.cell? ⟨w.heap.size, 5, none⟩ = some (.slice P.va P.vn P.vc) ∧ w'.cell? ⟨w.heap.size, 6, none⟩ = some (.slice P.ra P.rn P.rc) ∧ w'.cell? ⟨w.heap.size + 1, 1, none⟩ = some (.bool C.p) ∧ w'.cell? ⟨w.heap.size + 1, 2, none⟩ = some (.slice C.a C.na C.ca) ∧ w'.cell? ⟨w.heap.size + 1, 3, none⟩ = some (.slice C.d C.nd C.cd) ∧ w'.cell? ⟨w.heap.size + 1, 4, none⟩ = some (.slice C.xa C.xn C.xc)) := fun w' h => ⟨(Pb.below h) 0 _ rfl, (Pb.below h) 1 _ rfl, (Pb.below h) 2 _ rfl, (Pb.below h) 3 _ rfl, (Pb.below h) 4 _ rfl, (Pb.below h) 5 _ rfl, (Pb.below h) 6 _ rfl, (Cb.below h) 1 _ rfl, (Cb.below h) 2 _ rfl, (Cb.below h) 3 _ rfl, (Cb.below h) 4 _ rfl⟩
        obtain ⟨t, et⟩ : ∃ t, t = cs (vlu P C.X) C.v := ⟨_, rfl⟩
        have ET : Hid (t = cs (vlu P C.X) C.v) := et
        clear et
        refine wp_region_noPanic (wp_region_guard (fun _ w' => w'.cell? ⟨w.heap.size, 0, none⟩ = some (.bool P.mx) ∧ w'.cell? ⟨w.heap.size, 1, none⟩ = some (.string P.nm) ∧ w'.cell? ⟨w.heap.size, 2, none⟩ = some (.bool P.p) ∧ w'.cell? ⟨w.heap.size, 3, none⟩ = some (.slice P.a P.na P.ca) ∧ w'.cell? ⟨w.heap.size, 4, none⟩ = some (.slice P.d P.nd P.cd) ∧ w'.cell? ⟨w.heap.size, 5, none⟩ = some (.slice P.va P.vn P.vc) ∧ w'.cell? ⟨w.heap.size, 6, none⟩ = some (.slice P.ra P.rn P.rc) ∧ w'.cell? ⟨w.heap.size + 1, 1, none⟩ = some (.bool C.p) ∧ w'.cell? ⟨w.heap.size + 1, 2, none⟩ = some (.slice C.a C.na C.ca) ∧ w'.cell? ⟨w.heap.size + 1, 3, none⟩ = some (.slice C.d C.nd C.cd) ∧ w'.cell? ⟨w.heap.size + 1, 4, none⟩ = some (.slice C.xa C.xn C.xc)) (by as_aux_lemma => kernel_rfl) ?_)
        have hc0 : Below w1.heap.size w1 w1.drew := bel_d1 _
        generalize w1.drew = z0 at *
        refine wpAnyG.take 0 (v := .agg #[.bool P.mx, .string P.nm, .bool P.p, .slice P.a P.na P.ca, .slice P.d P.nd P.cd, .slice P.va P.vn P.vc, .slice P.ra P.rn P.rc]) (by decide) (by as_aux_lemma => kernel_rfl) (fun _ _ _ h => h) 3 _ (by rfl) (fun _ _ => Iff.rfl) (fun _ _ _ h => h) (by as_aux_lemma => kernel_rfl) (by as_aux_lemma => kernel_rfl) (by as_aux_lemma => kernel_rfl) (by rfl) ?y0 (HBX _ hc0) (by rfl) ?_
        case y0 =>
          rintro w' ⟨q0, q1, q2, q3, q4, q5, q6, q7, q8, q9, q10⟩
          simp only [lgA, lgZ]
          go_simp
        simp only [lgA, lgZ, Act.put, lsA, lsZ, lsS]
        refine wpAnyG.take 1 (v := .pointer (some ⟨w.heap.size + 1, 4, none⟩)) (by decide) (by as_aux_lemma => kernel_rfl) (fun _ _ _ h => h) 2 _ (by rfl) (fun _ _ => Iff.rfl) (fun _ _ _ h => h) (by as_aux_lemma => kernel_rfl) (by as_aux_lemma => kernel_rfl) (by as_aux_lemma => kernel_rfl) (by rfl) ?y1 (HBX _ hc0) (by rfl) ?_
        case y1 =>
          rintro w' ⟨q0, q1, q2, q3, q4, q5, q6, q7, q8, q9, q10⟩
          simp only [lgA, lgZ, lgS]
          go_simp
        simp only [lgA, lgZ, lgS, Act.put, lsA, lsZ, lsS]
        refine wpAnyG.take 2 (v := .slice C.xa C.xn C.xc) (by decide) (by as_aux_lemma => kernel_rfl) (fun _ _ _ h => h) 3 _ (by rfl) (fun _ _ => Iff.rfl) (fun _ _ _ h => h) (by as_aux_lemma => kernel_rfl) (by as_aux_lemma => kernel_rfl) (by as_aux_lemma => kernel_rfl) (by rfl) ?y2 (HBX _ hc0) (by rfl) ?_
        case y2 =>
          rintro w' ⟨q0, q1, q2, q3, q4, q5, q6, q7, q8, q9, q10⟩
          simp only [lgA, lgZ, lgS]
          go_simp
        simp only [lgA, lgZ, lgS, Act.put, lsA, lsZ, lsS]
        refine wpAnyG.take 4 (v := .pointer (some ⟨w.heap.size + 1, 1, none⟩)) (by decide) (by as_aux_lemma => kernel_rfl) (fun _ _ _ h => h) 5 _ (by rfl) (fun _ _ => Iff.rfl) (fun _ _ _ h => h) (by as_aux_lemma => kernel_rfl) (by as_aux_lemma => kernel_rfl) (by as_aux_lemma => kernel_rfl) (by rfl) ?y4 (HBX _ hc0) (by rfl) ?_
        case y4 =>
          rintro w' ⟨q0, q1, q2, q3, q4, q5, q6, q7, q8, q9, q10⟩
          simp only [lgA, lgZ, lgS]
          go_simp
        simp only [lgA, lgZ, lgS, Act.put, lsA, lsZ, lsS]
        refine wpAnyG.take 5 (v := .agg #[.bool C.p, .slice C.a C.na C.ca, .slice C.d C.nd C.cd]) (by decide) (by as_aux_lemma => kernel_rfl) (fun _ _ _ h => h) 6 _ (by rfl) (fun _ _ => Iff.rfl) (fun _ _ _ h => h) (by as_aux_lemma => kernel_rfl) (by as_aux_lemma => kernel_rfl) (by as_aux_lemma => kernel_rfl) (by rfl) ?y5 (HBX _ hc0) (by rfl) ?_
        case y5 =>
          rintro w' ⟨q0, q1, q2, q3, q4, q5, q6, q7, q8, q9, q10⟩
          simp only [lgA, lgZ, lgS]
          go_simp
        simp only [lgA, lgZ, lgS, Act.put, lsA, lsZ, lsS]
        refine wpAnyG.one 3 (by as_aux_lemma => kernel_rfl) (by decide) (by rfl) (fun K hK => ?_)
        simp only [lgA, lgZ, lgS]
        go_simp
        refine (valQ2 P (Kx := C.K) z0 (hP.below (bel_tr hb1 hc0)) (hC.x.below (bel_tr hb1 hc0)) hC.zx (by omega) hC.xc HX.out.1 (by omega) (hT.below (bel_tr hb1 hc0))).mono ?_
        rintro e z1 ⟨f1, d1, n1, k1, d2, n2, k2, rfl, G1, hk1⟩
        have hc1 : Below w1.heap.size w1 z1 := bel_tr hc0 hk1
        dsimp only
        refine hK _ _ (HBX _ hc1) ?_
        clear hK K
        refine wpAnyG.one 6 (by as_aux_lemma => kernel_rfl) (by decide) (by rfl) (fun K hK => ?_)
        simp only [lgA, lgZ, lgS]
        go_simp
        refine (cmpB t z1 G1.tr (hC.v.below (bel_tr hb1 hc1)) (by omega) (by omega) hC.s1 ET.out).mono ?_
        rintro e z2 ⟨rfl, hk2⟩
        have hc2 : Below w1.heap.size w1 z2 := bel_tr hc1 hk2
        dsimp only
        refine hK _ _ (HBX _ hc2) ?_
        clear hK K
        refine wpAnyG.one 7 (by as_aux_lemma => kernel_rfl) (by decide) (by rfl) (fun K hK => ?_)
        simp only [lgA, lgZ, lgS]
        go_simp
        refine hK _ _ (HBX _ hc2) ?_
        clear hK K
        refine wpAnyG.done (by as_aux_lemma => kernel_rfl) (NoPanic.normal ?_)
        have hb2 := bel_tr hb1 hc2
        have Pb2 := Pb.below hc2
        have Cb2 := Cb.below hc2
        have E2 := EH.below hb2
        clear HBX hc0 hc1 hc2 hk1 hk2 G1 Pb Cb E1 hb1
        by_cases ht : t = 0
        · have hv : vlu P C.X = C.v := cs_zero.1 (by rw [← ET.out]; exact ht)
          have HV : Hid (vlu P C.X = C.v) := hv
          subst ht
          clear hv
          have p0 := Pb2 0 _ rfl
          have p1 := Pb2 1 _ rfl
          have p2 := Pb2 2 _ rfl
          have p3 := Pb2 3 _ rfl
          have p4 := Pb2 4 _ rfl
          have p5 := Pb2 5 _ rfl
          have p6 := Pb2 6 _ rfl
          have c5 := Cb2 5 _ rfl
          clear ET
          go_wp2_with fail
          clear p0 p1 p2 p3 p4 p5 p6 c5
          refine (proveQ P (Ky := C.K) z2 (hP.below hb2) (hC.y.below hb2) hC.zy (by omega) (by omega) (hT.below hb2) E2.s E2.b).mono ?_
          rintro e w3 ⟨h3, hh⟩
          have hb3 := bel_tr hb2 h3
          have Cb3 := Cb2.below h3
          have E3 := EH.below hb3
          clear Pb2 Cb2 E2 hb2 h3
          rcases hh with ⟨hn, rfl⟩ | ⟨_, hno, rfl⟩ | ⟨_, hok, f, d3, n3, k3, d4, n4, k4, rfl, G⟩
          · exact absurd HX.out.2 hn
          · obtain ⟨ec, pp, rfl⟩ := E3.b
            have hz := bel_d0 w3 (.cells #[.bool false, .slice none 0 0, .slice none 0 0] 28)
            go_wp2
            go_ret
            exact ⟨bel_tr hb3 hz, .inr ⟨HX.out.1, HX.out.2, .inr ⟨HL.out, .inr ⟨HV.out, .inl ⟨fun h => hno h.1, rfl⟩⟩⟩⟩⟩
          · have hz := bel_d0 w3 (.cells #[.bool f, .slice d3 n3 k3, .slice d4 n4 k4] 28)
            have Cb4 := Cb3.below hz
            have c1 := Cb4 1 _ rfl
            have c2 := Cb4 2 _ rfl
            have c3 := Cb4 3 _ rfl
            have HO : Hid (okS P C.Y) := hok
            go_wp2_with fail
            have hb4 := bel_tr hb3 hz
            have E4 := EH.below hb4
            have G4 := G.below hz
            clear c1 c2 c3 hz Cb3 Cb4 E3 hb3 G
            generalize w3.alloc (.cells #[.bool f, .slice d3 n3 k3, .slice d4 n4 k4] 28) = W4 at *
            obtain ⟨s, es⟩ : ∃ s, s = cs (pvS P C.Y) C.v := ⟨_, rfl⟩
            have ES : Hid (s = cs (pvS P C.Y) C.v) := es
            refine (cmpB s W4 G4.tr (hC.v.below hb4) (by omega) (by omega) hC.s1 es).mono ?_
            rintro e w5 ⟨rfl, h5⟩
            have hb5 := bel_tr hb4 h5
            have E5 := EH.below hb5
            clear es h5 E4 G4 hb4
            by_cases hs : s = 0
            · have hv2 : pvS P C.Y = C.v := cs_zero.1 (by rw [← ES.out]; exact hs)
              subst hs
              clear ES
              have HF : OptR P C eS eP eV eB w (.returned .nilIface) w5 := ⟨hb5, .inr ⟨HX.out.1, HX.out.2, .inr ⟨HL.out, .inr ⟨HV.out, .inr ⟨HO.out, hv2, rfl⟩⟩⟩⟩⟩
              clear hv2
              go_wp2
              go_ret
              exact HF
            · have hv2 : pvS P C.Y ≠ C.v := fun h => hs (by rw [ES.out]; exact cs_zero.2 h)
              have hsb : (s == 0) = false := by simpa using hs
              obtain ⟨ec, pp, rfl⟩ := E5.b
              have HF : OptR P C eS eP eV (.iface 131 (.pointer (some pp))) w (.returned (.iface 131 (.pointer (some pp)))) w5 := ⟨hb5, .inr ⟨HX.out.1, HX.out.2, .inr ⟨HL.out, .inr ⟨HV.out, .inl ⟨fun h => hv2 h.2, rfl⟩⟩⟩⟩⟩
              clear hv2 ES
              go_wp2
              go_ret
              exact HF
        · have hv : vlu P C.X ≠ C.v := fun h => ht (by rw [ET.out]; exact cs_zero.2 h)
          have htb : (t == 0) = false := by simpa using ht
          obtain ⟨ec, pp, rfl⟩ := E2.v
          have HF : OptR P C eS eP (.iface 131 (.pointer (some pp))) eB w (.returned (.iface 131 (.pointer (some pp)))) z2 := ⟨hb2, .inr ⟨HX.out.1, HX.out.2, .inr ⟨HL.out, .inl ⟨hv, rfl⟩⟩⟩⟩
          clear hv ET Pb2 Cb2
          go_wp2
          go_ret
          exact HF
    · have hyI : ¬ ((C.yn : Int) = (P.rn : Int)) := by omega
      have hyB : ((C.yn : Int) == (P.rn : Int)) = false := by simpa using hyI
      obtain ⟨ec, pp, rfl⟩ := E0.s
      have HY : Hid (¬ C.yn = P.rn) := hy
      clear hx hy
      go_wp2
      go_ret
      exact ⟨hb0, .inl ⟨fun h => HY.out h.2, rfl⟩⟩
  · have hxI : ¬ ((C.xn : Int) = (P.vn : Int)) := by omega
    have hxB : ((C.xn : Int) == (P.vn : Int)) = false := by simpa using hxI
    obtain ⟨ec, pp, rfl⟩ := E0.s
    go_wp2
    go_ret
    exact ⟨hb0, .inl ⟨fun h => hx h.1, rfl⟩⟩
end Go.Proofs.YtjapbhdoemfgkaaGreatDoor

namespace Go.Proofs.YtjapbhdoemfgkaaGreatDoor
open Go.RowKit

theorem OptR.up {P : Prob} {C : Crt} {eS eP eV eB : Value} {w w0 w' : World} {e : Ending} (h : OptR P C eS eP eV eB w0 e w') (hb : Below w.heap.size w w0) : OptR P C eS eP eV eB w e w' := ⟨bel_tr hb h.1, h.2⟩
theorem OptR.val {P : Prob} {C : Crt} {eS eP eV eB : Value} {w w' : World} {e : Ending} (h : OptR P C eS eP eV eB w e w') : ∃ v, e = .returned v := by
  rcases h.2 with ⟨_, h⟩ | ⟨_, _, ⟨_, h⟩ | ⟨_, ⟨_, h⟩ | ⟨_, ⟨_, h⟩ | ⟨_, _, h⟩⟩⟩⟩ <;> exact ⟨_, h⟩
theorem prbI14 : (Tryz.prog.info? 32).map (·.size) = some 7 := by kernel_rfl
set_option maxRecDepth 100000 in
set_option maxHeartbeats 4000000 in
/-- check.Check, Optimal. -/
theorem chk1 (P : Prob) (C : Crt) (w : World) (hv : C.vd = 1) (hP : PQ w P) (hC : CQ w C) (hK : P.K + C.K ≤ 1048576) (hT : TB w) {eS eP eV eB eR eD : Value} (EH : EE w eS eP eV eB eR eD) :
    Calls Tryz.prog 6 #[P.val, C.val] w fun e w' => OptR P C eS eP eV eB w e w' := by
  have HV : Hid (C.vd = 1) := hv
  clear hv
  have HQ := fun w1 (hb : Below w.heap.size w w1) => optQ P C w1 (hP.below hb) (hC.below hb) hK (hT.below hb) (EH.below hb)
  unfold Prob.val Crt.val at *
  rw [HV.out] at HQ ⊢
  have Pb := box_new w #[.bool P.mx, .string P.nm, .bool P.p, .slice P.a P.na P.ca, .slice P.d P.nd P.cd, .slice P.va P.vn P.vc, .slice P.ra P.rn P.rc] 32
  have hz0 := bel_d0 w (.cells #[.bool P.mx, .string P.nm, .bool P.p, .slice P.a P.na P.ca, .slice P.d P.nd P.cd, .slice P.va P.vn P.vc, .slice P.ra P.rn P.rc] 32)
  have hs0 : (w.alloc (.cells #[.bool P.mx, .string P.nm, .bool P.p, .slice P.a P.na P.ca, .slice P.d P.nd P.cd, .slice P.va P.vn P.vc, .slice P.ra P.rn P.rc] 32)).heap.size = w.heap.size + 1 := by simp
  have Cb := box_new (w.alloc (.cells #[.bool P.mx, .string P.nm, .bool P.p, .slice P.a P.na P.ca, .slice P.d P.nd P.cd, .slice P.va P.vn P.vc, .slice P.ra P.rn P.rc] 32)) #[.int .i64 1, .bool C.p, .slice C.a C.na C.ca, .slice C.d C.nd C.cd, .slice C.xa C.xn C.xc, .slice C.ya C.yn C.yc, .slice C.za C.zn C.zc] 35
  have hz1 := bel_d0 (w.alloc (.cells #[.bool P.mx, .string P.nm, .bool P.p, .slice P.a P.na P.ca, .slice P.d P.nd P.cd, .slice P.va P.vn P.vc, .slice P.ra P.rn P.rc] 32)) (.cells #[.int .i64 1, .bool C.p, .slice C.a C.na C.ca, .slice C.d C.nd C.cd, .slice C.xa C.xn C.xc, .slice C.ya C.yn C.yc, .slice C.za C.zn C.zc] 35)
  rw [hs0] at Cb
  replace Pb := Pb.below hz1
  have hb0 := bel_tr hz0 hz1
  clear hz0 hz1 hs0
  have p0 := Pb 0 _ rfl; have p1 := Pb 1 _ rfl; have p2 := Pb 2 _ rfl; have p3 := Pb 3 _ rfl; have p4 := Pb 4 _ rfl; have p5 := Pb 5 _ rfl; have p6 := Pb 6 _ rfl
  have c0 := Cb 0 _ rfl; have c1 := Cb 1 _ rfl; have c2 := Cb 2 _ rfl; have c3 := Cb 3 _ rfl; have c4 := Cb 4 _ rfl; have c5 := Cb 5 _ rfl; have c6 := Cb 6 _ rfl
  go_enter Tryz.func6, Tryz.ntmps6
  go_wp2_with fail
  clear p0 p1 p2 p3 p4 p5 p6 c0 c1 c2 c3 c4 c5 c6
  generalize (w.alloc (.cells #[.bool P.mx, .string P.nm, .bool P.p, .slice P.a P.na P.ca, .slice P.d P.nd P.cd, .slice P.va P.vn P.vc, .slice P.ra P.rn P.rc] 32)).alloc (.cells #[.int .i64 1, .bool C.p, .slice C.a C.na C.ca, .slice C.d C.nd C.cd, .slice C.xa C.xn C.xc, .slice C.ya C.yn C.yc, .slice C.za C.zn C.zc] 35) = W0 at *
  refine (HQ W0 hb0).mono ?_
  intro e w1 HR
  replace HR := HR.up hb0
  clear Pb Cb hb0 HQ
  obtain ⟨v, rfl⟩ := HR.val
  go_wp2
  go_ret
  exact HR
set_option maxRecDepth 100000 in
set_option maxHeartbeats 4000000 in
/-- check.Check, no verdict. -/
theorem chk4 (P : Prob) (C : Crt) (w : World) (h1 : C.vd ≠ 1) (h2 : C.vd ≠ 2) (h3 : C.vd ≠ 3) {eS eP eV eB eR eD : Value} (EH : EE w eS eP eV eB eR eD) :
    Calls Tryz.prog 6 #[P.val, C.val] w fun e w' => e = .returned eD ∧ Below w.heap.size w w' := by
  unfold Prob.val Crt.val
  have hz0 := bel_d0 w (.cells #[.bool P.mx, .string P.nm, .bool P.p, .slice P.a P.na P.ca, .slice P.d P.nd P.cd, .slice P.va P.vn P.vc, .slice P.ra P.rn P.rc] 32)
  have hs0 : (w.alloc (.cells #[.bool P.mx, .string P.nm, .bool P.p, .slice P.a P.na P.ca, .slice P.d P.nd P.cd, .slice P.va P.vn P.vc, .slice P.ra P.rn P.rc] 32)).heap.size = w.heap.size + 1 := by simp
  have Cb := box_new (w.alloc (.cells #[.bool P.mx, .string P.nm, .bool P.p, .slice P.a P.na P.ca, .slice P.d P.nd P.cd, .slice P.va P.vn P.vc, .slice P.ra P.rn P.rc] 32)) #[.int .i64 C.vd, .bool C.p, .slice C.a C.na C.ca, .slice C.d C.nd C.cd, .slice C.xa C.xn C.xc, .slice C.ya C.yn C.yc, .slice C.za C.zn C.zc] 35
  have hz1 := bel_d0 (w.alloc (.cells #[.bool P.mx, .string P.nm, .bool P.p, .slice P.a P.na P.ca, .slice P.d P.nd P.cd, .slice P.va P.vn P.vc, .slice P.ra P.rn P.rc] 32)) (.cells #[.int .i64 C.vd, .bool C.p, .slice C.a C.na C.ca, .slice C.d C.nd C.cd, .slice C.xa C.xn C.xc, .slice C.ya C.yn C.yc, .slice C.za C.zn C.zc] 35)
  rw [hs0] at Cb
  have hb0 := bel_tr hz0 hz1
  have E0 := EH.below hb0
  obtain ⟨ec, pp, rfl⟩ := E0.d
  have c0 := Cb 0 _ rfl
  have n1 : (C.vd == 1) = false := by simpa using h1
  have n2 : (C.vd == 2) = false := by simpa using h2
  have n3 : (C.vd == 3) = false := by simpa using h3
  clear hz0 hz1 hs0 E0
  go_enter Tryz.func6, Tryz.ntmps6
  go_wp2
  go_ret
  exact ⟨rfl, hb0⟩
set_option maxHeartbeats 4000000 in
/-- law14.n. -/
theorem nQ14 (v : Int) (w : World) (h0 : -9223372036854775808 ≤ v) (h1 : v < 9223372036854775808) :
    Calls Tryz.prog 8 #[.int .i64 v] w fun e w' => ∃ f c n k c' n' k', e = .returned (.agg #[.bool f, .slice c n k, .slice c' n' k']) ∧ GR w' w.heap.size f c n k c' n' k' (v : Rat) 1 ∧ Below w.heap.size w w' := by
  have R0 := var3_new w (.bool false) (.slice none 0 0) (.slice none 0 0) 28
  have hb0 := bel_d0 w (.cells #[.bool false, .slice none 0 0, .slice none 0 0] 28)
  have hs0 : (w.alloc (.cells #[.bool false, .slice none 0 0, .slice none 0 0] 28)).heap.size = w.heap.size + 1 := by simp
  go_enter Tryz.func8, Tryz.ntmps8
  go_wp2_with fail
  generalize w.alloc (.cells #[.bool false, .slice none 0 0, .slice none 0 0] 28) = W0 at *
  refine (ofD v W0 h0 h1).mono ?_
  rintro e w1 ⟨f, c, n, k, d, m, l, rfl, G, hx⟩
  have hs1 := Below.size hx
  replace R0 := R0.below hx
  replace hb0 := bel_tr hb0 hx
  obtain ⟨r0, r1, r2, r3, r4, r5⟩ := id R0
  obtain ⟨VV, O⟩ := R0.set (.bool f) (.slice c n k) (.slice d m l)
  have GF := G.off O (by omega)
  have hw := hb0.trans (O.below (by omega))
  clear R0 O G hb0 hx
  go_wp2
  refine bodyPost_ret (v := .agg #[.bool f, .slice c n k, .slice d m l]) (by simp [results, Tryz.results8, go_sem, VV.c0, VV.c1, VV.c2]) rfl ?_
  replace GF := GF.mono (B' := w.heap.size) (by omega)
  exact ⟨_, _, _, _, _, _, _, rfl, GF, hw⟩
theorem bndI14 : (Tryz.prog.info? 37).map (·.size) = some 4 := by kernel_rfl
set_option maxHeartbeats 4000000 in
/-- law14.at. -/
theorem atQ14 (v : Int) (w : World) (h0 : -9223372036854775808 ≤ v) (h1 : v < 9223372036854775808) :
    Calls Tryz.prog 25 #[.int .i64 v] w fun e w' => ∃ f c n k c' n' k', e = .returned (.agg #[.bool true, .bool f, .slice c n k, .slice c' n' k']) ∧ GR w' w.heap.size f c n k c' n' k' (v : Rat) 1 ∧ Below w.heap.size w w' := by
  have R0 := Rw.new 37 w #[.bool false, .bool false, .slice none 0 0, .slice none 0 0]
  have hb0 := bel_d0 w (.cells #[.bool false, .bool false, .slice none 0 0, .slice none 0 0] 37)
  have hs0 : (w.alloc (.cells #[.bool false, .bool false, .slice none 0 0, .slice none 0 0] 37)).heap.size = w.heap.size + 1 := by simp
  go_enter Tryz.func25, Tryz.ntmps25
  go_wp2_with fail
  generalize w.alloc (.cells #[.bool false, .bool false, .slice none 0 0, .slice none 0 0] 37) = W0 at *
  refine (ofD v W0 h0 h1).mono ?_
  rintro e w1 ⟨f, c, n, k, d, m, l, rfl, G, hx⟩
  have hs1 := Below.size hx
  replace R0 := R0.below hx
  replace hb0 := bel_tr hb0 hx
  clear hx
  go_wp2_with (refine R0.put #[.bool true, .bool f, .slice c n k, .slice d m l] rfl _ _ rfl rfl rfl bndI14 rfl (by simp [Value.oneCell']) ?_)
  intro w2 R2 O
  have GF := (G.off O (by omega)).mono (B' := w.heap.size) (by omega)
  have hw := hb0.trans (O.below (by omega))
  clear R0 O G hb0
  go_wp2
  refine bodyPost_ret (v := .agg #[.bool true, .bool f, .slice c n k, .slice d m l]) (Rw.ret1 Tryz.results25 _ R2 rfl Tryz.underlying37 bndI14) rfl ?_
  exact ⟨_, _, _, _, _, _, _, rfl, GF, hw⟩
theorem tr_o14 (w : World) : TR w false none 0 0 none 0 0 0 1 := ⟨0, 0, ((GI.nil w 0).le (Nat.zero_le 1)).ti, ((Got.nil w 0).le (Nat.zero_le 1)).num, by simp⟩
theorem c3_of {w : World} {b o : Nat} {p : Bool} {a : Option Addr} {na ca : Nat} {d : Option Addr} {nd cd : Nat} {r : Rat} {S : Nat} (h0 : w.cell? ⟨b, o, none⟩ = some (.bool p)) (h1 : w.cell? ⟨b, o + 1, none⟩ = some (.slice a na ca)) (h2 : w.cell? ⟨b, o + 2, none⟩ = some (.slice d nd cd)) (h : TR w p a na ca d nd cd r S) : C3 w b o r S := ⟨p, a, na, ca, d, nd, cd, h0, h1, h2, h⟩
theorem szw (v : Int) (h : (v.natAbs : Int) < 18446744073709551616) : SzR (v : Rat) 1 := by
  have e : pw 1 = 18446744073709551616 := rfl
  exact ⟨by rw [e]; exact h, by rw [e]; show ((1 : Nat) : Int) < _; decide⟩
def exV (j : Nat) : PV := if j = 0 then { nm := ⟨#[]⟩, obj := ((2 : Int) : Rat), hlo := true, lo := ((0 : Int) : Rat), hhi := true, hi := ((3 : Int) : Rat), whole := false } else { nm := ⟨#[]⟩, obj := ((3 : Int) : Rat), hlo := true, lo := ((0 : Int) : Rat), hhi := false, hi := 0, whole := false }
def exT (k : Nat) : PT := if k = 0 then { var := 0, coef := ((1 : Int) : Rat) } else { var := 1, coef := ((1 : Int) : Rat) }
def exR (_ : Nat) : PW := { nm := ⟨#[]⟩, nt := 2, t := exT, hlo := true, lo := ((4 : Int) : Rat), hhi := false, hi := 0 }
/-- The document's example. -/
def exP (p : Bool) (a : Option Addr) (na ca : Nat) (d : Option Addr) (nd cd : Nat) (va ra : Option Addr) : Prob :=
  { mx := false, nm := ⟨#[]⟩, p := p, a := a, na := na, ca := ca, d := d, nd := nd, cd := cd, va := va, vn := 2, vc := 2, ra := ra, rn := 1, rc := 1, k := ((1 : Int) : Rat), V := exV, ZV := fun _ => 1, R := exR, ZR := fun _ => 5, S := 1, K := 13 }
set_option maxRecDepth 100000 in
set_option maxHeartbeats 8000000 in
theorem exampleQ (w : World) : Calls Tryz.prog 11 #[] w fun e w' => ∃ p a na ca d nd cd va ra, e = .returned (exP p a na ca d nd cd va ra).val ∧ PQ w' (exP p a na ca d nd cd va ra) ∧ Below w.heap.size w w' := by
  have R0 := Rw.new 32 w #[.bool false, .string ⟨#[]⟩, .bool false, .slice none 0 0, .slice none 0 0, .slice none 0 0, .slice none 0 0]
  have hb0 := bel_d0 w (.cells #[.bool false, .string ⟨#[]⟩, .bool false, .slice none 0 0, .slice none 0 0, .slice none 0 0, .slice none 0 0] 32)
  have hs0 : (w.alloc (.cells #[.bool false, .string ⟨#[]⟩, .bool false, .slice none 0 0, .slice none 0 0, .slice none 0 0, .slice none 0 0] 32)).heap.size = w.heap.size + 1 := by simp
  go_enter Tryz.func11, Tryz.ntmps11
  go_wp2_with fail
  generalize w.alloc (.cells #[.bool false, .string ⟨#[]⟩, .bool false, .slice none 0 0, .slice none 0 0, .slice none 0 0, .slice none 0 0] 32) = w0 at *
  refine (nQ14 1 w0 (by decide) (by decide)).mono ?_
  rintro e w1 ⟨f1, c1, n1, k1, d1, m1, l1, rfl, G1, hx⟩
  have hs1 := Below.size hx
  replace hb0 := bel_tr hb0 hx
  replace R0 := R0.below hx
  clear hx
  go_wp2_with fail
  refine (nQ14 2 w1 (by decide) (by decide)).mono ?_
  rintro e w2 ⟨f2, c2, n2, k2, d2, m2, l2, rfl, G2, hx⟩
  have hs2 := Below.size hx
  replace hb0 := bel_tr hb0 hx
  replace R0 := R0.below hx
  replace G1 := G1.below hx
  clear hx
  go_wp2_with fail
  refine (atQ14 0 w2 (by decide) (by decide)).mono ?_
  rintro e w3 ⟨f3, c3, n3, k3, d3, m3, l3, rfl, G3, hx⟩
  have hs3 := Below.size hx
  replace hb0 := bel_tr hb0 hx
  replace R0 := R0.below hx
  replace G1 := G1.below hx
  replace G2 := G2.below hx
  clear hx
  go_wp2_with fail
  refine (atQ14 3 w3 (by decide) (by decide)).mono ?_
  rintro e w4 ⟨f4, c4, n4, k4, d4, m4, l4, rfl, G4, hx⟩
  have hs4 := Below.size hx
  replace hb0 := bel_tr hb0 hx
  replace R0 := R0.below hx
  replace G1 := G1.below hx
  replace G2 := G2.below hx
  replace G3 := G3.below hx
  clear hx
  go_wp2_with fail
  refine (nQ14 3 w4 (by decide) (by decide)).mono ?_
  rintro e w5 ⟨f5, c5, n5, k5, d5, m5, l5, rfl, G5, hx⟩
  have hs5 := Below.size hx
  replace hb0 := bel_tr hb0 hx
  replace R0 := R0.below hx
  replace G1 := G1.below hx
  replace G2 := G2.below hx
  replace G3 := G3.below hx
  replace G4 := G4.below hx
  clear hx
  go_wp2_with fail
  refine (atQ14 0 w5 (by decide) (by decide)).mono ?_
  rintro e w6 ⟨f6, c6, n6, k6, d6, m6, l6, rfl, G6, hx⟩
  have hs6 := Below.size hx
  replace hb0 := bel_tr hb0 hx
  replace R0 := R0.below hx
  replace G1 := G1.below hx
  replace G2 := G2.below hx
  replace G3 := G3.below hx
  replace G4 := G4.below hx
  replace G5 := G5.below hx
  clear hx
  go_wp2_with fail
  have hx := bel_d0 w6 (.cells #[.string ⟨#[]⟩, .bool f2, .slice c2 n2 k2, .slice d2 m2 l2, .bool true, .bool f3, .slice c3 n3 k3, .slice d3 m3 l3, .bool true, .bool f4, .slice c4 n4 k4, .slice d4 m4 l4, .bool false, .string ⟨#[]⟩, .bool f5, .slice c5 n5 k5, .slice d5 m5 l5, .bool true, .bool f6, .slice c6 n6 k6, .slice d6 m6 l6, .bool false, .bool false, .slice none 0 0, .slice none 0 0, .bool false] 39)
  have BV := box_new w6 #[.string ⟨#[]⟩, .bool f2, .slice c2 n2 k2, .slice d2 m2 l2, .bool true, .bool f3, .slice c3 n3 k3, .slice d3 m3 l3, .bool true, .bool f4, .slice c4 n4 k4, .slice d4 m4 l4, .bool false, .string ⟨#[]⟩, .bool f5, .slice c5 n5 k5, .slice d5 m5 l5, .bool true, .bool f6, .slice c6 n6 k6, .slice d6 m6 l6, .bool false, .bool false, .slice none 0 0, .slice none 0 0, .bool false] 39
  have hswV : (w6.alloc (.cells #[.string ⟨#[]⟩, .bool f2, .slice c2 n2 k2, .slice d2 m2 l2, .bool true, .bool f3, .slice c3 n3 k3, .slice d3 m3 l3, .bool true, .bool f4, .slice c4 n4 k4, .slice d4 m4 l4, .bool false, .string ⟨#[]⟩, .bool f5, .slice c5 n5 k5, .slice d5 m5 l5, .bool true, .bool f6, .slice c6 n6 k6, .slice d6 m6 l6, .bool false, .bool false, .slice none 0 0, .slice none 0 0, .bool false] 39)).heap.size = w6.heap.size + 1 := by simp
  replace hb0 := bel_tr hb0 hx
  replace R0 := R0.below hx
  replace G1 := G1.below hx
  replace G2 := G2.below hx
  replace G3 := G3.below hx
  replace G4 := G4.below hx
  replace G5 := G5.below hx
  replace G6 := G6.below hx
  clear hx
  generalize w6.alloc (.cells #[.string ⟨#[]⟩, .bool f2, .slice c2 n2 k2, .slice d2 m2 l2, .bool true, .bool f3, .slice c3 n3 k3, .slice d3 m3 l3, .bool true, .bool f4, .slice c4 n4 k4, .slice d4 m4 l4, .bool false, .string ⟨#[]⟩, .bool f5, .slice c5 n5 k5, .slice d5 m5 l5, .bool true, .bool f6, .slice c6 n6 k6, .slice d6 m6 l6, .bool false, .bool false, .slice none 0 0, .slice none 0 0, .bool false] 39) = wV at *
  refine (nQ14 1 wV (by decide) (by decide)).mono ?_
  rintro e w7 ⟨f7, c7, n7, k7, d7, m7, l7, rfl, G7, hx⟩
  have hs7 := Below.size hx
  replace hb0 := bel_tr hb0 hx
  replace R0 := R0.below hx
  replace G1 := G1.below hx
  replace G2 := G2.below hx
  replace G3 := G3.below hx
  replace G4 := G4.below hx
  replace G5 := G5.below hx
  replace G6 := G6.below hx
  replace BV := BV.below hx
  clear hx
  go_wp2_with fail
  refine (nQ14 1 w7 (by decide) (by decide)).mono ?_
  rintro e w8 ⟨f8, c8, n8, k8, d8, m8, l8, rfl, G8, hx⟩
  have hs8 := Below.size hx
  replace hb0 := bel_tr hb0 hx
  replace R0 := R0.below hx
  replace G1 := G1.below hx
  replace G2 := G2.below hx
  replace G3 := G3.below hx
  replace G4 := G4.below hx
  replace G5 := G5.below hx
  replace G6 := G6.below hx
  replace G7 := G7.below hx
  replace BV := BV.below hx
  clear hx
  go_wp2_with fail
  have hx := bel_d0 w8 (.cells #[.int .i64 0, .bool f7, .slice c7 n7 k7, .slice d7 m7 l7, .int .i64 1, .bool f8, .slice c8 n8 k8, .slice d8 m8 l8] 59)
  have BT := box_new w8 #[.int .i64 0, .bool f7, .slice c7 n7 k7, .slice d7 m7 l7, .int .i64 1, .bool f8, .slice c8 n8 k8, .slice d8 m8 l8] 59
  have hswT : (w8.alloc (.cells #[.int .i64 0, .bool f7, .slice c7 n7 k7, .slice d7 m7 l7, .int .i64 1, .bool f8, .slice c8 n8 k8, .slice d8 m8 l8] 59)).heap.size = w8.heap.size + 1 := by simp
  replace hb0 := bel_tr hb0 hx
  replace R0 := R0.below hx
  replace G1 := G1.below hx
  replace G2 := G2.below hx
  replace G3 := G3.below hx
  replace G4 := G4.below hx
  replace G5 := G5.below hx
  replace G6 := G6.below hx
  replace G7 := G7.below hx
  replace G8 := G8.below hx
  replace BV := BV.below hx
  clear hx
  generalize w8.alloc (.cells #[.int .i64 0, .bool f7, .slice c7 n7 k7, .slice d7 m7 l7, .int .i64 1, .bool f8, .slice c8 n8 k8, .slice d8 m8 l8] 59) = wT at *
  refine (atQ14 4 wT (by decide) (by decide)).mono ?_
  rintro e w9 ⟨f9, c9, n9, k9, d9, m9, l9, rfl, G9, hx⟩
  have hs9 := Below.size hx
  replace hb0 := bel_tr hb0 hx
  replace R0 := R0.below hx
  replace G1 := G1.below hx
  replace G2 := G2.below hx
  replace G3 := G3.below hx
  replace G4 := G4.below hx
  replace G5 := G5.below hx
  replace G6 := G6.below hx
  replace G7 := G7.below hx
  replace G8 := G8.below hx
  replace BV := BV.below hx
  replace BT := BT.below hx
  clear hx
  have hx := bel_d0 w9 (.cells #[.string ⟨#[]⟩, .slice (some ⟨w8.heap.size, 0, none⟩) 2 2, .bool true, .bool f9, .slice c9 n9 k9, .slice d9 m9 l9, .bool false, .bool false, .slice none 0 0, .slice none 0 0] 62)
  have BR := box_new w9 #[.string ⟨#[]⟩, .slice (some ⟨w8.heap.size, 0, none⟩) 2 2, .bool true, .bool f9, .slice c9 n9 k9, .slice d9 m9 l9, .bool false, .bool false, .slice none 0 0, .slice none 0 0] 62
  have hsR : (w9.alloc (.cells #[.string ⟨#[]⟩, .slice (some ⟨w8.heap.size, 0, none⟩) 2 2, .bool true, .bool f9, .slice c9 n9 k9, .slice d9 m9 l9, .bool false, .bool false, .slice none 0 0, .slice none 0 0] 62)).heap.size = w9.heap.size + 1 := by simp
  have R1 := R0.below hx
  have hb1 := bel_tr hb0 hx
  replace G1 := G1.below hx
  replace G2 := G2.below hx
  replace G3 := G3.below hx
  replace G4 := G4.below hx
  replace G5 := G5.below hx
  replace G6 := G6.below hx
  replace G7 := G7.below hx
  replace G8 := G8.below hx
  replace G9 := G9.below hx
  replace BV := BV.below hx
  replace BT := BT.below hx
  clear hx R0
  go_wp2_with (refine R1.put #[.bool false, .string ⟨#[]⟩, .bool f1, .slice c1 n1 k1, .slice d1 m1 l1, .slice (some ⟨w6.heap.size, 0, none⟩) 2 2, .slice (some ⟨w9.heap.size, 0, none⟩) 1 1] rfl _ _ rfl rfl rfl prbI14 rfl (by simp [Value.oneCell']) ?_)
  intro wE RE O
  have hw := hb1.trans (O.below (Nat.le_refl _))
  replace G1 := (G1.off O (by omega)).tr
  replace G2 := (G2.off O (by omega)).tr
  replace G3 := (G3.off O (by omega)).tr
  replace G4 := (G4.off O (by omega)).tr
  replace G5 := (G5.off O (by omega)).tr
  replace G6 := (G6.off O (by omega)).tr
  replace G7 := (G7.off O (by omega)).tr
  replace G8 := (G8.off O (by omega)).tr
  replace G9 := (G9.off O (by omega)).tr
  replace BV : BoxC wE w6.heap.size _ := fun a u hu => (World.cell?_of_block (O.block w6.heap.size (by omega))).trans (BV a u hu)
  replace BT : BoxC wE w8.heap.size _ := fun a u hu => (World.cell?_of_block (O.block w8.heap.size (by omega))).trans (BT a u hu)
  replace BR : BoxC wE w9.heap.size _ := fun a u hu => (World.cell?_of_block (O.block w9.heap.size (by omega))).trans (BR a u hu)
  clear R1 O hb0 hb1
  generalize w9.alloc (.cells #[.string ⟨#[]⟩, .slice (some ⟨w8.heap.size, 0, none⟩) 2 2, .bool true, .bool f9, .slice c9 n9 k9, .slice d9 m9 l9, .bool false, .bool false, .slice none 0 0, .slice none 0 0] 62) = wR at *
  go_wp2
  refine bodyPost_ret (v := .agg #[.bool false, .string ⟨#[]⟩, .bool f1, .slice c1 n1 k1, .slice d1 m1 l1, .slice (some ⟨w6.heap.size, 0, none⟩) 2 2, .slice (some ⟨w9.heap.size, 0, none⟩) 1 1]) (Rw.ret1 Tryz.results11 _ RE rfl Tryz.underlying32 prbI14) rfl ?_
  clear RE
  refine ⟨f1, c1, n1, k1, d1, m1, l1, some ⟨w6.heap.size, 0, none⟩, some ⟨w9.heap.size, 0, none⟩, rfl, ?_, hw⟩
  have s0 : SzR 0 1 := szw 0 (by decide)
  refine ⟨G1, Nat.le_refl _, szw 1 (by decide), .inr ⟨_, 0, rfl, fun j hj => ?_⟩, .inr ⟨_, 0, rfl, fun i hi => ?_⟩, Nat.le_of_ble_eq_true rfl, Nat.le_refl _, Nat.le_refl _⟩
  · match j, hj with
    | 0, _ => exact ⟨BV 0 _ rfl, c3_of (BV 1 _ rfl) (BV 2 _ rfl) (BV 3 _ rfl) G2, BV 4 _ rfl, c3_of (BV 5 _ rfl) (BV 6 _ rfl) (BV 7 _ rfl) G3, BV 8 _ rfl, c3_of (BV 9 _ rfl) (BV 10 _ rfl) (BV 11 _ rfl) G4, BV 12 _ rfl, Nat.le_refl _, szw 2 (by decide), szw 0 (by decide), szw 3 (by decide), Nat.le_of_ble_eq_true rfl⟩
    | 1, _ => exact ⟨BV 13 _ rfl, c3_of (BV 14 _ rfl) (BV 15 _ rfl) (BV 16 _ rfl) G5, BV 17 _ rfl, c3_of (BV 18 _ rfl) (BV 19 _ rfl) (BV 20 _ rfl) G6, BV 21 _ rfl, c3_of (BV 22 _ rfl) (BV 23 _ rfl) (BV 24 _ rfl) (tr_o14 _), BV 25 _ rfl, Nat.le_refl _, szw 3 (by decide), szw 0 (by decide), s0, Nat.le_of_ble_eq_true rfl⟩
  · obtain rfl : i = 0 := by have : i < 1 := hi; omega
    refine ⟨BR 0 _ rfl, ⟨_, 2, fun _ => 1, BR 1 _ rfl, .inr ⟨_, 0, rfl, fun k hk => ?_⟩, Nat.le_of_ble_eq_true rfl, Nat.le_refl _⟩, BR 2 _ rfl, c3_of (BR 3 _ rfl) (BR 4 _ rfl) (BR 5 _ rfl) (G9.up (Nat.le_of_ble_eq_true rfl)), BR 6 _ rfl, c3_of (BR 7 _ rfl) (BR 8 _ rfl) (BR 9 _ rfl) ((tr_o14 _).up (Nat.le_of_ble_eq_true rfl)), Nat.le_of_ble_eq_true rfl, (szw 4 (by decide)).le (Nat.le_of_ble_eq_true rfl), s0.le (Nat.le_of_ble_eq_true rfl), Nat.le_of_ble_eq_true rfl⟩
    match k, hk with
    | 0, _ => exact ⟨BT 0 _ rfl, c3_of (BT 1 _ rfl) (BT 2 _ rfl) (BT 3 _ rfl) G7, Nat.le_refl _, szw 1 (by decide), (show (-9223372036854775808 : Int) ≤ 0 by decide), (show (0 : Int) ≤ 9223372036854775807 by decide)⟩
    | 1, _ => exact ⟨BT 4 _ rfl, c3_of (BT 5 _ rfl) (BT 6 _ rfl) (BT 7 _ rfl) G8, Nat.le_refl _, szw 1 (by decide), (show (-9223372036854775808 : Int) ≤ 1 by decide), (show (1 : Int) ≤ 9223372036854775807 by decide)⟩
end Go.Proofs.YtjapbhdoemfgkaaGreatDoor

namespace Go.Proofs.YtjapbhdoemfgkaaGreatDoor
open Go.RowKit

theorem q0 : ((0 : Int) : Rat) = 0 := rfl
theorem q1 : ((1 : Int) : Rat) = 1 := rfl
theorem q2 : ((2 : Int) : Rat) = 2 := rfl
theorem q3 : ((3 : Int) : Rat) = 3 := rfl
theorem q4 : ((4 : Int) : Rat) = 4 := rfl
theorem q10 : ((10 : Int) : Rat) = 10 := rfl
section
variable (p : Bool) (a : Option Addr) (na ca : Nat) (d : Option Addr) (nd cd : Nat) (va ra : Option Addr)
theorem ex_lft0 (m : Rat) : lft (exP p a na ca d nd cd va ra) (fun _ => m) 0 = 2 - m := by
  show ((2 : Int) : Rat) - (0 + m * (0 + (if (0 : Int) = ((0 : Nat) : Int) then ((1 : Int) : Rat) else 0) + (if (1 : Int) = ((0 : Nat) : Int) then ((1 : Int) : Rat) else 0))) = 2 - m
  rw [if_pos (by decide), if_neg (by decide)]
  simp
  try grind
theorem ex_lft1 (m : Rat) : lft (exP p a na ca d nd cd va ra) (fun _ => m) 1 = 3 - m := by
  show ((3 : Int) : Rat) - (0 + m * (0 + (if (0 : Int) = ((1 : Nat) : Int) then ((1 : Int) : Rat) else 0) + (if (1 : Int) = ((1 : Nat) : Int) then ((1 : Int) : Rat) else 0))) = 3 - m
  rw [if_neg (by decide), if_pos (by decide)]
  simp
  try grind
theorem ex_ok3 : okS (exP p a na ca d nd cd va ra) (fun _ => ((3 : Int) : Rat)) := by
  unfold okS
  rw [if_neg (by show ¬ (false = true); decide)]
  refine ⟨fun i hi => ⟨fun _ => rfl, fun h => ?_⟩, fun j hj => ?_⟩
  · have h2 : ((3 : Int) : Rat) < 0 := h
    rw [q3] at h2
    grind
  · have hj2 : j < 2 := hj
    match j, hj2 with
    | 0, _ => exact ⟨fun _ => rfl, fun _ => rfl⟩
    | 1, _ =>
      refine ⟨fun _ => rfl, fun h => ?_⟩
      rw [ex_lft1, q3] at h
      grind
theorem ex_no4 : ¬ okS (exP p a na ca d nd cd va ra) (fun _ => ((4 : Int) : Rat)) := by
  unfold okS
  rw [if_neg (by show ¬ (false = true); decide)]
  intro h
  have h1 := (h.2 1 (show 1 < 2 by decide)).2
  rw [ex_lft1, q4] at h1
  have h2 : false = true := h1 (by grind)
  cases h2
theorem ex_pv3 : pvS (exP p a na ca d nd cd va ra) (fun _ => ((3 : Int) : Rat)) = ((10 : Int) : Rat) := by
  unfold pvS
  rw [if_neg (by show ¬ (false = true); decide)]
  show ((1 : Int) : Rat) + (0 + pb ((3 : Int) : Rat) ((4 : Int) : Rat) 0) + (0 + pb (lft (exP p a na ca d nd cd va ra) (fun _ => ((3 : Int) : Rat)) 0) ((0 : Int) : Rat) ((3 : Int) : Rat) + pb (lft (exP p a na ca d nd cd va ra) (fun _ => ((3 : Int) : Rat)) 1) ((0 : Int) : Rat) 0) = _
  rw [ex_lft0, ex_lft1, q0, q1, q3, q4, q10]
  unfold pb
  rw [if_pos (by grind), if_neg (by grind), if_pos (by grind), if_neg (by grind), if_neg (by grind)]
  grind
/-- The example's point. -/
def exX (i : Nat) : Rat := if i = 0 then ((3 : Int) : Rat) else ((1 : Int) : Rat)
theorem ex_holds : Hlds (exP p a na ca d nd cd va ra) 2 exX := by
  refine ⟨rfl, fun j hj => ?_, fun i hi => ?_⟩
  · have hj2 : j < 2 := hj
    match j, hj2 with
    | 0, _ =>
      rw [wthn_iff]
      exact ⟨fun _ => (show ((0 : Int) : Rat) ≤ ((3 : Int) : Rat) by decide), fun _ => (show ((3 : Int) : Rat) ≤ ((3 : Int) : Rat) by decide)⟩
    | 1, _ =>
      rw [wthn_iff]
      exact ⟨fun _ => (show ((0 : Int) : Rat) ≤ ((1 : Int) : Rat) by decide), fun h => (by have h2 : false = true := h; cases h2)⟩
  · obtain rfl : i = 0 := by have : i < 1 := hi; omega
    rw [wthn_iff]
    refine ⟨fun _ => ?_, fun h => (by have h2 : false = true := h; cases h2)⟩
    show ((4 : Int) : Rat) ≤ 0 + (if (0 : Int) ≤ 0 ∧ (0 : Int) < ((2 : Nat) : Int) then ((1 : Int) : Rat) * ((3 : Int) : Rat) else 0) + (if (0 : Int) ≤ 1 ∧ (1 : Int) < ((2 : Nat) : Int) then ((1 : Int) : Rat) * ((1 : Int) : Rat) else 0)
    rw [if_pos (by decide), if_pos (by decide), q1, q3, q4]
    grind
theorem ex_vlu : vlu (exP p a na ca d nd cd va ra) exX = ((10 : Int) : Rat) := by
  show 0 + ((1 : Int) : Rat) + ((2 : Int) : Rat) * ((3 : Int) : Rat) + ((3 : Int) : Rat) * ((1 : Int) : Rat) = _
  rw [q1, q2, q3, q10]
  grind
end
end Go.Proofs.YtjapbhdoemfgkaaGreatDoor

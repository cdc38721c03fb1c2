import Derived.Test.YtimdohckhfmhiaaGreatDoorPqI
import Derived.Test.YtimdohckhfmhiaaGreatDoorWhEAll
import Derived.Deep.RegionWith
namespace Go.Proofs.YtimdohckhfmhiaaGreatDoor
open Go.RowKit

/-- The two operations that may come. -/
theorem wpAnyG.two {P : Program} {ops : Array Oper} {Q : Exit → Act → World → Prop} {md : Region.Mode} {T : Array Bool → World → Prop} (i j : Nat) {f : Nat} {L : Array Bool} {a : Act} {w : World} (hr : Region.ready md ops L = [i, j]) (hi : i < ops.size) (hj : j < ops.size) (wi : Region.wanted ops[i] (yielded ops a.tmps) = true) (wj : Region.wanted ops[j] (yielded ops a.tmps) = true)
    (h1 : ∀ K : Act → World → Prop, (∀ a' w', T (L.setIfInBounds i true) w' → wpAnyG P md ops Q T f (L.setIfInBounds i true) a' w' → K a' w') → ops[i].wp P a w K Q)
    (h2 : ∀ K : Act → World → Prop, (∀ a' w', T (L.setIfInBounds j true) w' → wpAnyG P md ops Q T f (L.setIfInBounds j true) a' w' → K a' w') → ops[j].wp P a w K Q) : wpAnyG P md ops Q T (f + 1) L a w := by
  refine ⟨fun h0 => (by rw [hr] at h0; cases h0), fun k hk => ?_⟩
  rw [hr] at hk
  rcases (by simpa using hk : k = i ∨ k = j) with rfl | rfl
  · unfold wpOp
    rw [Array.getElem?_eq_getElem hi]
    simp only [wi, if_true]
    exact .inl (h1 _ fun a' w' h1 h2 => ⟨h1, h2⟩)
  · unfold wpOp
    rw [Array.getElem?_eq_getElem hj]
    simp only [wj, if_true]
    exact .inl (h2 _ fun a' w' h1 h2 => ⟨h1, h2⟩)
theorem boxV3 {w : World} {R : Nat} {u v z : Value} (h : Var3 w R u v z) : BoxC w R [u, v, z] := by
  intro i x hx
  match i, hx with
  | 0, hx => simp at hx; subst hx; exact h.c0
  | 1, hx => simp at hx; subst hx; exact h.c1
  | 2, hx => simp at hx; subst hx; exact h.c2
/-- An operation that is not wanted may be taken first. -/
theorem wpAnyG.skip {P : Program} {ops : Array Oper} {Q : Exit → Act → World → Prop} {md : Region.Mode} {T : Array Bool → World → Prop} (i : Nat) {f : Nat} {L : Array Bool} {a : Act} {w : World} (hlt : i < ops.size) (hsel : Region.noSelect ops = true) (hQ : ∀ c a w, Q (.panic c) (a.put ops[i].dst undef) w → Q (.panic c) a w) (s : Nat) (hsi : (s == i) = false) (hind : ∀ L w, T (L.setIfInBounds i true) w ↔ T L w)
    (hwait : (match ops[s]? with | some o => o.after.toList.any (fun e => Region.binds md e && e.on == i) | none => false) = true) (hf : Region.free md ops L i = true) (hr : (Region.ready md ops L).contains i = true)
    (hwd : Region.wanted ops[i] (yielded ops a.tmps) = false) (hT : T L w) (hs : L.getD s true = false)
    (h : wpAnyG P md ops Q T f (L.setIfInBounds i true) (a.put ops[i].dst undef) w) : wpAnyG P md ops Q T (f + 1) L a w := by
  have hi : ops[i]? = some ops[i] := Array.getElem?_eq_getElem hlt
  refine wpAnyG.load (S := fun _ => True) hi hsel hQ (by simpa using hsi) hind (fun _ _ _ _ => trivial) ?_ f L a w (Region.free_spec hi hf) (by simpa using hr) (.inr ⟨hwd, rfl⟩) hT hs h
  intro L' hL' hm
  obtain ⟨_, o, ho, hall⟩ := mem_ready.1 hm
  rw [ho] at hwait
  obtain ⟨x, hx', hb⟩ := List.any_eq_true.1 hwait
  have hx := Array.mem_toList_iff.1 hx'
  simp only [Bool.and_eq_true, beq_iff_eq] at hb
  have h1 := hall x hx hb.1
  rw [hb.2] at h1
  have h2 : i < L'.size := Nat.lt_of_not_le fun hle => by simp [Array.getElem?_eq_none hle] at h1
  simp [h2] at hL' h1
  rw [hL'] at h1; cases h1
/-- A region's end, told by itself. -/
theorem wp_cutP {P : Program} {c : Code} {Q : Exit → Act → World → Prop} {a : Act} {w : World} (J : Act → Act → World → Prop) (h1 : c.wp P (fun e a' w' => e = .normal ∧ J a a' w') a w) (h2 : ∀ a' w', J a a' w' → Q .normal a' w') : c.wp P Q a w :=
  Code.wp_mono (fun e a' w' h => by obtain ⟨rfl, h⟩ := h; exact h2 a' w' h) h1
set_option maxRecDepth 100000 in
set_option maxHeartbeats 8000000 in
theorem convex_walk (P : Prob) {xa : Option Addr} {nx xc : Nat} {X : Nat → Rat} {Zx : Nat → Nat} {ya : Option Addr} {ny yc : Nat} {Y : Nat → Rat} {Zy : Nat → Nat} {p : Bool} {a : Option Addr} {na ca : Nat} {d : Option Addr} {nd cd : Nat} {t : Rat} {Kx Ky Kt : Nat} (w : World) (hP : PQ w P) (hx : LQ w xa nx X Zx) (hzx : ∀ i, i < nx → 1 ≤ Zx i ∧ SzR (X i) (Zx i)) (htx : tot Zx nx ≤ Kx) (hxc : nx ≤ xc) (hy : LQ w ya ny Y Zy) (hzy : ∀ i, i < ny → 1 ≤ Zy i ∧ SzR (Y i) (Zy i)) (hty : tot Zy ny ≤ Ky) (hyc : ny ≤ yc) (ht : TR w p a na ca d nd cd t Kt) (hKt : 1 ≤ Kt) (hK : P.K + Kx + Ky + Kt ≤ 1048576) (hT : TB w)
    (HA : ∀ w1, Below w.heap.size w w1 → Calls Tryz.prog 8 #[] w1 fun e w' => e = .returned (.bool true) ∧ Below w1.heap.size w1 w') :
    Calls Tryz.prog 6 #[P.val, .slice xa nx xc, .slice ya ny yc, .agg #[.bool p, .slice a na ca, .slice d nd cd]] w fun e w' => e = .returned (.bool true) ∧ Below w.heap.size w w' := by
  obtain ⟨q, hq⟩ : ∃ q, q = min nx ny := ⟨_, rfl⟩
  have hqx : q ≤ nx := by omega
  have hqy : q ≤ ny := by omega
  obtain ⟨SZ, OX, OY, OZ⟩ := szs hP (n := q) (fun i hi => (hzx i (by omega)).2) (fun i hi => (hzy i (by omega)).2) (Nat.le_trans (tot_mono Zx hqx) htx) (Nat.le_trans (tot_mono Zy hqy) hty) (ht.sz hKt) hK
  have hZx : ∀ j, j < nx → Zx j ≤ Kx := fun j hj => by have := tot_le (Z := Zx) hj; omega
  have hZy : ∀ j, j < ny → Zy j ≤ Ky := fun j hj => by have := tot_le (Z := Zy) hj; omega
  have hnq : q ≤ 1048576 := by have := tot_len Zx nx; omega
  have HBT : ∀ w1, Below w.heap.size w w1 → Calls Tryz.prog 27 #[.slice xa nx xc, .slice ya ny yc, .agg #[.bool p, .slice a na ca, .slice d nd cd]] w1 fun e w' => ∃ a cap, e = .returned (.slice a q cap) ∧ LQ w' a q (fun j => btw t (X j) (Y j)) (fun _ => 2097160) ∧ q ≤ cap ∧ Below w1.heap.size w1 w' := fun w1 hb =>
    betweenQ (T := 2097160) (U := 2097160) w1 (hx.below hb) (hy.below hb) (ht.below hb) hq (fun j hj => by have h1 := (hzx j (by omega)).1; have h2 := (hzy j (by omega)).1; have h3 := hZx j (by omega); have h4 := hZy j (by omega); omega) (by omega) (by omega) (fun j hj => ⟨(SZ.z j hj).1, (SZ.z j hj).2.1⟩) hKt (fun j hj => (SZ.z j hj).2.2) (by omega) (hT.below hb)
  have P0 := box_new w #[.bool P.mx, .string P.nm, .bool P.p, .slice P.a P.na P.ca, .slice P.d P.nd P.cd, .slice P.va P.vn P.vc, .slice P.ra P.rn P.rc] 31
  have x0 := bel_d0 w (.cells #[.bool P.mx, .string P.nm, .bool P.p, .slice P.a P.na P.ca, .slice P.d P.nd P.cd, .slice P.va P.vn P.vc, .slice P.ra P.rn P.rc] 31)
  have s0 : (w.alloc (.cells #[.bool P.mx, .string P.nm, .bool P.p, .slice P.a P.na P.ca, .slice P.d P.nd P.cd, .slice P.va P.vn P.vc, .slice P.ra P.rn P.rc] 31)).heap.size = w.heap.size + 1 := by simp
  have T0 := var3_new (w.alloc (.cells #[.bool P.mx, .string P.nm, .bool P.p, .slice P.a P.na P.ca, .slice P.d P.nd P.cd, .slice P.va P.vn P.vc, .slice P.ra P.rn P.rc] 31)) (.bool p) (.slice a na ca) (.slice d nd cd) 27
  have x1 := bel_d0 (w.alloc (.cells #[.bool P.mx, .string P.nm, .bool P.p, .slice P.a P.na P.ca, .slice P.d P.nd P.cd, .slice P.va P.vn P.vc, .slice P.ra P.rn P.rc] 31)) (.cells #[.bool p, .slice a na ca, .slice d nd cd] 27)
  rw [s0] at T0
  have Pb := P0.below x1
  have hb := bel_tr x0 x1
  clear P0 x0 x1 s0
  unfold Prob.val
  go_enter Tryz.func6, Tryz.ntmps6
  go_wp2_with fail
  generalize (w.alloc (.cells #[.bool P.mx, .string P.nm, .bool P.p, .slice P.a P.na P.ca, .slice P.d P.nd P.cd, .slice P.va P.vn P.vc, .slice P.ra P.rn P.rc] 31)).alloc (.cells #[.bool p, .slice a na ca, .slice d nd cd] 27) = W at *
  refine (HA W hb).mono ?_
  rintro e w1 ⟨rfl, h1⟩
  replace Pb := Pb.below h1
  replace T0 := T0.below h1
  replace hb := bel_tr hb h1
  clear h1 HA
  obtain ⟨t0, t1, t2, _, _, _⟩ := id T0
  go_wp2_with fail
  refine (HBT w1 hb).mono ?_
  clear HBT t0 t1 t2
  rintro e w2 ⟨za, zc, rfl, hz, hzc, h1⟩
  replace Pb := Pb.below h1
  replace T0 := T0.below h1
  replace hb := bel_tr hb h1
  clear h1
  by_cases hnn : nx = ny
  · subst hnn
    obtain rfl : q = nx := by omega
    clear hq hqx hqy
    have hvn : P.vn ≤ 1048576 := by have := hP.all; have := tot_len P.ZV P.vn; omega
    have hrn : P.rn ≤ 1048576 := by have := hP.all; have := tot_len P.ZR P.rn; omega
    have hPS : P.S ≤ 1048576 := by have := hP.all; omega
    have hZV : ∀ j, j < min q P.vn → P.ZV j ≤ 1048576 := fun j hj => by have := tot_le (Z := P.ZV) (show j < P.vn by omega); have := hP.all; omega
    have hZR : ∀ i, i < P.rn → P.ZR i ≤ P.K := fun i hi => by have := tot_le (Z := P.ZR) hi; have := hP.all; omega
    have HVX : ∀ w1, Below w.heap.size w w1 → _ := fun w1 hb => valueQ P (T := 2097160) (S := 3145736) (m := min q P.vn) w1 (hP.below hb) (hx.below hb) hxc rfl (by omega) (fun j hj => ⟨(hzx j (by omega)).1, by have := hZV j hj; have := hZx j (by omega); omega⟩) (by omega) (by omega) SZ.vx (by omega) (hT.below hb)
    have HVY : ∀ w1, Below w.heap.size w w1 → _ := fun w1 hb => valueQ P (T := 2097160) (S := 3145736) (m := min q P.vn) w1 (hP.below hb) (hy.below hb) hyc rfl (by omega) (fun j hj => ⟨(hzy j (by omega)).1, by have := hZV j hj; have := hZy j (by omega); omega⟩) (by omega) (by omega) SZ.vy (by omega) (hT.below hb)
    have HVZ : ∀ w1, Below w.heap.size w w1 → Below w2.heap.size w2 w1 → _ := fun w1 hb hb2 => valueQ P (T := 2097160) (S := 3145736) (m := min q P.vn) w1 (hP.below hb) (hz.below hb2) hzc rfl (by omega) (fun j hj => ⟨by show 1 ≤ 2097160; omega, by have := hZV j hj; show P.ZV j + 2097160 ≤ _; omega⟩) (by omega) (by omega) SZ.vz (by omega) (hT.below hb)
    have p0 := Pb 0 _ rfl
    have p1 := Pb 1 _ rfl
    have p2 := Pb 2 _ rfl
    have p3 := Pb 3 _ rfl
    have p4 := Pb 4 _ rfl
    have p5 := Pb 5 _ rfl
    have p6 := Pb 6 _ rfl
    go_wp2_with fail
    refine (HVX w2 hb).mono ?_
    clear HVX p0 p1 p2 p3 p4 p5 p6
    rintro e w3 ⟨fv, cv1, nv, kv, dv, mv, lv, rfl, GV, h1⟩
    replace Pb := Pb.below h1
    replace T0 := T0.below h1
    replace hb := bel_tr hb h1
    have h2 : Below w2.heap.size w2 w3 := h1
    clear h1
    go_wp2_with fail
    have V0 := var3_new w3 (.bool fv) (.slice cv1 nv kv) (.slice dv mv lv) 27
    have x4 := bel_d0 w3 (.cells #[.bool fv, .slice cv1 nv kv, .slice dv mv lv] 27)
    obtain ⟨RV, hRV⟩ : ∃ RV, RV = w3.heap.size := ⟨_, rfl⟩
    rw [← hRV] at V0
    rw [← hRV]
    replace Pb := Pb.below x4
    replace T0 := T0.below x4
    replace GV := GV.below x4
    have hbW := bel_tr hb x4
    replace h2 := bel_tr h2 x4
    have hTw := hT.below hbW
    have htw := ht.below hbW
    clear x4 hb hRV
    generalize w3.alloc (.cells #[.bool fv, .slice cv1 nv kv, .slice dv mv lv] 27) = W4 at *
    have HB : ∀ w', Below W4.heap.size W4 w' → (w'.cell? ⟨RV, 0, none⟩ = some (.bool fv) ∧ w'.cell? ⟨RV, 1, none⟩ = some (.slice cv1 nv kv) ∧ w'.cell? ⟨RV, 2, none⟩ = some (.slice dv mv lv) ∧ w'.cell? ⟨(w.heap.size + 1), 0, none⟩ = some (.bool p) ∧ w'.cell? ⟨(w.heap.size + 1), 1, none⟩ = some (.slice a na ca) ∧ w'.cell? ⟨(w.heap.size + 1), 2, none⟩ = some (.slice d nd cd) ∧ w'.cell? ⟨w.heap.size, 0, none⟩ = some (.bool P.mx) ∧ w'.cell? ⟨w.heap.size, 1, none⟩ = some (.string P.nm) ∧ w'.cell? ⟨w.heap.size, 2, none⟩ = some (.bool P.p) ∧ w'.cell? ⟨w.heap.size, 3, none⟩ = some (.slice P.a P.na P.ca) ∧ w'.cell? ⟨w.heap.size, 4, none⟩ = some (.slice P.d P.nd P.cd) ∧ w'.cell? ⟨w.heap.size, 5, none⟩ = some (.slice P.va P.vn P.vc) ∧ w'.cell? ⟨w.heap.size, 6, none⟩ = some (.slice P.ra P.rn P.rc)) := fun w' h => ⟨kept_c h V0.c0, kept_c h V0.c1, kept_c h V0.c2, kept_c h T0.c0, kept_c h T0.c1, kept_c h T0.c2, kept_c h (Pb 0 _ rfl), kept_c h (Pb 1 _ rfl), kept_c h (Pb 2 _ rfl), kept_c h (Pb 3 _ rfl), kept_c h (Pb 4 _ rfl), kept_c h (Pb 5 _ rfl), kept_c h (Pb 6 _ rfl)⟩
    have HB0 := HB W4 (Below.refl _ _)
    obtain ⟨y0, y1, y2, y3, y4, y5, y6, y7, y8, y9, y10, y11, y12⟩ := HB0
    refine wp_cutP (fun a0 a' w' => ∃ R f1 c1 n1 l1 e1 m1 r1 f2 c2 n2 l2 e2 m2 r2 f3 c3 n3 l3 e3 m3 r3 f4 c4 n4 l4 e4 m4 r4, a' = ((((((((((a0.put (some 31) (.agg #[.bool fv, .slice cv1 nv kv, .slice dv mv lv])).put (some 32) (.agg #[.bool p, .slice a na ca, .slice d nd cd])).put (some 33) (.agg #[.bool P.mx, .string P.nm, .bool P.p, .slice P.a P.na P.ca, .slice P.d P.nd P.cd, .slice P.va P.vn P.vc, .slice P.ra P.rn P.rc])).put (some 34) (.slice ya q yc)).put (some 35) (.agg #[.bool f1, .slice c1 n1 l1, .slice e1 m1 r1])).put (some 36) (.agg #[.bool fv, .slice cv1 nv kv, .slice dv mv lv])).put (some 37) (.agg #[.bool f2, .slice c2 n2 l2, .slice e2 m2 r2])).put (some 38) (.agg #[.bool f3, .slice c3 n3 l3, .slice e3 m3 r3])).put (some 39) (.agg #[.bool f4, .slice c4 n4 l4, .slice e4 m4 r4])).put (some 12) (.pointer (some ⟨R, 0, none⟩))) ∧ Var3 w' R (.bool f4) (.slice c4 n4 l4) (.slice e4 m4 r4) ∧ GR w' W4.heap.size f4 c4 n4 l4 e4 m4 r4 (btw t (rsum (prt P.k P.V X) (min q P.vn + 1)) (rsum (prt P.k P.V Y) (min q P.vn + 1))) 2097160 ∧ Below W4.heap.size W4 w') ?_ ?_
    · have HBX : ∀ w', Below W4.heap.size W4 w' → BoxC w' RV [.bool fv, .slice cv1 nv kv, .slice dv mv lv] ∧ BoxC w' (w.heap.size + 1) [.bool p, .slice a na ca, .slice d nd cd] ∧ BoxC w' w.heap.size [.bool P.mx, .string P.nm, .bool P.p, .slice P.a P.na P.ca, .slice P.d P.nd P.cd, .slice P.va P.vn P.vc, .slice P.ra P.rn P.rc] := fun w' h => ⟨(boxV3 V0).below h, (boxV3 T0).below h, Pb.below h⟩
      have HBX0 := HBX W4 (Below.refl _ _)
      refine wp_region_noPanic (wp_region_guard (Till 10 10 (fun w' => BoxC w' RV [.bool fv, .slice cv1 nv kv, .slice dv mv lv] ∧ BoxC w' (w.heap.size + 1) [.bool p, .slice a na ca, .slice d nd cd] ∧ BoxC w' w.heap.size [.bool P.mx, .string P.nm, .bool P.p, .slice P.a P.na P.ca, .slice P.d P.nd P.cd, .slice P.va P.vn P.vc, .slice P.ra P.rn P.rc]) (fun _ => True)) (by kernel_rfl) ?_)
      refine wpAnyG.take 0 (v := .agg #[.bool fv, .slice cv1 nv kv, .slice dv mv lv]) (by decide) (by kernel_rfl) (fun _ _ _ h => h) 10 _ (by rfl) (till_ind (by decide) (by decide)) (fun L w' h1 h2 => h2.1 h1) (by kernel_rfl) (by kernel_rfl) (by kernel_rfl) (by rfl) ?y0 ⟨fun _ => HBX0, fun _ => trivial⟩ (by rfl) ?_
      case y0 =>
        rintro w' ⟨hA5, hB5, hC5⟩
        have qhA50 := hA5 0 _ rfl; have qhA51 := hA5 1 _ rfl; have qhA52 := hA5 2 _ rfl
        simp only [List.getElem_toArray, List.getElem_cons_zero]
        go_simp
      simp only [List.getElem_toArray, List.getElem_cons_zero, Act.put, List.setIfInBounds_toArray, List.set_cons_zero, List.set_cons_succ]
      refine wpAnyG.take 1 (v := .agg #[.bool p, .slice a na ca, .slice d nd cd]) (by decide) (by kernel_rfl) (fun _ _ _ h => h) 10 _ (by rfl) (till_ind (by decide) (by decide)) (fun L w' h1 h2 => h2.1 h1) (by kernel_rfl) (by kernel_rfl) (by kernel_rfl) (by rfl) ?y1 ⟨fun _ => HBX0, fun _ => trivial⟩ (by rfl) ?_
      case y1 =>
        rintro w' ⟨hA5, hB5, hC5⟩
        have qhB50 := hB5 0 _ rfl; have qhB51 := hB5 1 _ rfl; have qhB52 := hB5 2 _ rfl
        simp only [List.getElem_toArray, List.getElem_cons_zero, List.getElem_cons_succ]
        go_simp
      simp only [List.getElem_toArray, List.getElem_cons_zero, List.getElem_cons_succ, Act.put, List.setIfInBounds_toArray, List.set_cons_zero, List.set_cons_succ]
      refine wpAnyG.take 2 (v := .agg #[.bool P.mx, .string P.nm, .bool P.p, .slice P.a P.na P.ca, .slice P.d P.nd P.cd, .slice P.va P.vn P.vc, .slice P.ra P.rn P.rc]) (by decide) (by kernel_rfl) (fun _ _ _ h => h) 10 _ (by rfl) (till_ind (by decide) (by decide)) (fun L w' h1 h2 => h2.1 h1) (by kernel_rfl) (by kernel_rfl) (by kernel_rfl) (by rfl) ?y2 ⟨fun _ => HBX0, fun _ => trivial⟩ (by rfl) ?_
      case y2 =>
        rintro w' ⟨hA5, hB5, hC5⟩
        have qhC50 := hC5 0 _ rfl; have qhC51 := hC5 1 _ rfl; have qhC52 := hC5 2 _ rfl; have qhC53 := hC5 3 _ rfl; have qhC54 := hC5 4 _ rfl; have qhC55 := hC5 5 _ rfl; have qhC56 := hC5 6 _ rfl
        simp only [List.getElem_toArray, List.getElem_cons_zero, List.getElem_cons_succ]
        go_simp
      simp only [List.getElem_toArray, List.getElem_cons_zero, List.getElem_cons_succ, Act.put, List.setIfInBounds_toArray, List.set_cons_zero, List.set_cons_succ]
      refine wpAnyG.take 3 (v := .slice ya q yc) (by decide) (by kernel_rfl) (fun _ _ _ h => h) 10 _ (by rfl) (till_ind (by decide) (by decide)) (fun L w' h1 h2 => h2.1 h1) (by kernel_rfl) (by kernel_rfl) (by kernel_rfl) (by rfl) ?y3 ⟨fun _ => HBX0, fun _ => trivial⟩ (by rfl) ?_
      case y3 =>
        rintro w' ⟨hA5, hB5, hC5⟩
        skip
        simp only [List.getElem_toArray, List.getElem_cons_zero, List.getElem_cons_succ]
        go_simp
      simp only [List.getElem_toArray, List.getElem_cons_zero, List.getElem_cons_succ, Act.put, List.setIfInBounds_toArray, List.set_cons_zero, List.set_cons_succ]
      refine wpAnyG.take 5 (v := .agg #[.bool fv, .slice cv1 nv kv, .slice dv mv lv]) (by decide) (by kernel_rfl) (fun _ _ _ h => h) 10 _ (by rfl) (till_ind (by decide) (by decide)) (fun L w' h1 h2 => h2.1 h1) (by kernel_rfl) (by kernel_rfl) (by kernel_rfl) (by rfl) ?y5 ⟨fun _ => HBX0, fun _ => trivial⟩ (by rfl) ?_
      case y5 =>
        rintro w' ⟨hA5, hB5, hC5⟩
        have qhA50 := hA5 0 _ rfl; have qhA51 := hA5 1 _ rfl; have qhA52 := hA5 2 _ rfl
        simp only [List.getElem_toArray, List.getElem_cons_zero, List.getElem_cons_succ]
        go_simp
      simp only [List.getElem_toArray, List.getElem_cons_zero, List.getElem_cons_succ, Act.put, List.setIfInBounds_toArray, List.set_cons_zero, List.set_cons_succ]
      have hc0 : Below W4.heap.size W4 W4.drew := bel_d1 _
      generalize W4.drew = v0 at *
      clear HBX0
      refine wpAnyG.two 4 9 (by kernel_rfl) (by decide) (by decide) (by rfl) (by rfl) (fun K hK => ?_) (fun K hK => ?_)
      · simp only [List.getElem_toArray, List.getElem_cons_zero, List.getElem_cons_succ]
        go_simp
        refine (HVY v0 (bel_tr hbW hc0)).mono ?_
        rintro e v1 ⟨f1, c1, n1, l1, e1, m1, r1, rfl, G1, hk1⟩
        have hc1 : Below W4.heap.size W4 v1 := bel_tr hc0 hk1
        skip
        dsimp only
        refine hK _ _ ⟨fun _ => HBX _ hc1, fun _ => trivial⟩ ?_
        clear hK K
        refine wpAnyG.two 6 9 (by kernel_rfl) (by decide) (by decide) (by rfl) (by rfl) (fun K hK => ?_) (fun K hK => ?_)
        · simp only [List.getElem_toArray, List.getElem_cons_zero, List.getElem_cons_succ]
          go_simp
          refine (subQ v1 G1.tr (GV.tr.below hc1) (by omega) (by omega) (by omega) (hTw.below hc1)).mono ?_
          rintro e v2 ⟨f2, c2, n2, l2, e2, m2, r2, rfl, G2, hk2⟩
          have hc2 : Below W4.heap.size W4 v2 := bel_tr hc1 hk2
          replace G2 := G2.fit SZ.v1
          dsimp only
          refine hK _ _ ⟨fun _ => HBX _ hc2, fun _ => trivial⟩ ?_
          clear hK K
          refine wpAnyG.two 7 9 (by kernel_rfl) (by decide) (by decide) (by rfl) (by rfl) (fun K hK => ?_) (fun K hK => ?_)
          · simp only [List.getElem_toArray, List.getElem_cons_zero, List.getElem_cons_succ]
            go_simp
            refine (mulQ v2 (htw.below hc2) G2.tr (by omega) (by omega) (by omega) (hTw.below hc2)).mono ?_
            rintro e v3 ⟨f3, c3, n3, l3, e3, m3, r3, rfl, G3, hk3⟩
            have hc3 : Below W4.heap.size W4 v3 := bel_tr hc2 hk3
            replace G3 := G3.fit SZ.v2
            dsimp only
            refine hK _ _ ⟨fun _ => HBX _ hc3, fun _ => trivial⟩ ?_
            clear hK K
            refine wpAnyG.two 8 9 (by kernel_rfl) (by decide) (by decide) (by rfl) (by rfl) (fun K hK => ?_) (fun K hK => ?_)
            · simp only [List.getElem_toArray, List.getElem_cons_zero, List.getElem_cons_succ]
              go_simp
              refine (addQ v3 (GV.tr.below hc3) G3.tr (by omega) (by omega) (by omega) (hTw.below hc3)).mono ?_
              rintro e v4 ⟨f4, c4, n4, l4, e4, m4, r4, rfl, G4, hk4⟩
              have hc4 : Below W4.heap.size W4 v4 := bel_tr hc3 hk4
              replace G4 := G4.fit SZ.v3
              dsimp only
              refine hK _ _ ⟨fun _ => HBX _ hc4, fun _ => trivial⟩ ?_
              clear hK K
              refine wpAnyG.one 9 (by kernel_rfl) (by decide) (by rfl) (fun K hK => ?_)
              simp only [List.getElem_toArray, List.getElem_cons_zero, List.getElem_cons_succ]
              go_simp
              refine hK _ _ ⟨fun _ => HBX _ (bel_tr hc4 (bel_d0 _ _)), fun _ => trivial⟩ ?_
              clear hK K
              refine wpAnyG.one 10 (by kernel_rfl) (by decide) (by rfl) (fun K hK => ?_)
              simp only [List.getElem_toArray, List.getElem_cons_zero, List.getElem_cons_succ]
              go_simp
              refine hK _ _ ⟨fun h => absurd h (by decide), fun _ => trivial⟩ ?_
              clear hK K
              refine wpAnyG.done (by kernel_rfl) (NoPanic.normal ?_)
              exact ⟨rfl, v4.heap.size, f1, c1, n1, l1, e1, m1, r1, f2, c2, n2, l2, e2, m2, r2, f3, c3, n3, l3, e3, m3, r3, f4, c4, n4, l4, e4, m4, r4, rfl, var3_new _ _ _ _ _, (G4.below (bel_d0 _ _)).mono hc3.size, bel_tr hc4 (bel_d0 _ _)⟩
            · simp only [List.getElem_toArray, List.getElem_cons_zero, List.getElem_cons_succ]
              go_simp
              have xa := bel_d0 v3 (.cells #[.bool false, .slice none 0 0, .slice none 0 0] 27)
              have VA3 := var3_new v3 (.bool false) (.slice none 0 0) (.slice none 0 0) 27
              have hRB : W4.heap.size ≤ v3.heap.size := hc3.size
              have hR3 : v3.heap.size < (v3.alloc (.cells #[.bool false, .slice none 0 0, .slice none 0 0] 27)).heap.size := by simp
              replace hc3 := bel_tr hc3 xa
              replace G3 := G3.below xa
              refine hK _ _ ⟨fun _ => HBX _ hc3, fun _ => trivial⟩ ?_
              clear hK K xa
              obtain ⟨RW, hRW⟩ : ∃ RW, v3.heap.size = RW := ⟨_, rfl⟩
              rw [hRW] at VA3 hRB hR3 ⊢
              clear hRW
              generalize v3.alloc (.cells #[.bool false, .slice none 0 0, .slice none 0 0] 27) = vz at *
              clear hk3
              refine wpAnyG.one 8 (by kernel_rfl) (by decide) (by rfl) (fun K hK => ?_)
              simp only [List.getElem_toArray, List.getElem_cons_zero, List.getElem_cons_succ]
              go_simp
              refine (addQ vz (GV.tr.below hc3) G3.tr (by omega) (by omega) (by omega) (hTw.below hc3)).mono ?_
              rintro e v4 ⟨f4, c4, n4, l4, e4, m4, r4, rfl, G4, hk4⟩
              have hc4 : Below W4.heap.size W4 v4 := bel_tr hc3 hk4
              replace G4 := G4.fit SZ.v3
              have VA4 := VA3.below hk4
              have hB4 : RW < vz.heap.size := hR3
              dsimp only
              refine hK _ _ ⟨fun _ => HBX _ hc4, fun _ => trivial⟩ ?_
              clear hK K
              refine wpAnyG.one 10 (by kernel_rfl) (by decide) (by rfl) (fun K hK => ?_)
              obtain ⟨u0, u1, u2, u3, u4, u5⟩ := id VA4
              simp only [List.getElem_toArray, List.getElem_cons_zero, List.getElem_cons_succ]
              go_simp
              obtain ⟨V, O⟩ := VA4.set (.bool f4) (.slice c4 n4 l4) (.slice e4 m4 r4)
              refine hK _ _ ⟨fun h => absurd h (by decide), fun _ => trivial⟩ ?_
              clear hK K
              refine wpAnyG.done (by kernel_rfl) (NoPanic.normal ?_)
              exact ⟨rfl, RW, f1, c1, n1, l1, e1, m1, r1, f2, c2, n2, l2, e2, m2, r2, f3, c3, n3, l3, e3, m3, r3, f4, c4, n4, l4, e4, m4, r4, rfl, V, (G4.off O hB4).mono (Nat.le_trans hRB (Nat.le_of_lt hB4)), hc4.trans (O.below hRB)⟩
          · simp only [List.getElem_toArray, List.getElem_cons_zero, List.getElem_cons_succ]
            go_simp
            have xa := bel_d0 v2 (.cells #[.bool false, .slice none 0 0, .slice none 0 0] 27)
            have VA2 := var3_new v2 (.bool false) (.slice none 0 0) (.slice none 0 0) 27
            have hRB : W4.heap.size ≤ v2.heap.size := hc2.size
            have hR2 : v2.heap.size < (v2.alloc (.cells #[.bool false, .slice none 0 0, .slice none 0 0] 27)).heap.size := by simp
            replace hc2 := bel_tr hc2 xa
            replace G2 := G2.below xa
            refine hK _ _ ⟨fun _ => HBX _ hc2, fun _ => trivial⟩ ?_
            clear hK K xa
            obtain ⟨RW, hRW⟩ : ∃ RW, v2.heap.size = RW := ⟨_, rfl⟩
            rw [hRW] at VA2 hRB hR2 ⊢
            clear hRW
            generalize v2.alloc (.cells #[.bool false, .slice none 0 0, .slice none 0 0] 27) = vz at *
            clear hk2
            refine wpAnyG.one 7 (by kernel_rfl) (by decide) (by rfl) (fun K hK => ?_)
            simp only [List.getElem_toArray, List.getElem_cons_zero, List.getElem_cons_succ]
            go_simp
            refine (mulQ vz (htw.below hc2) G2.tr (by omega) (by omega) (by omega) (hTw.below hc2)).mono ?_
            rintro e v3 ⟨f3, c3, n3, l3, e3, m3, r3, rfl, G3, hk3⟩
            have hc3 : Below W4.heap.size W4 v3 := bel_tr hc2 hk3
            replace G3 := G3.fit SZ.v2
            have VA3 := VA2.below hk3
            have hR3 : RW < v3.heap.size := Nat.lt_of_lt_of_le hR2 hk3.size
            dsimp only
            refine hK _ _ ⟨fun _ => HBX _ hc3, fun _ => trivial⟩ ?_
            clear hK K
            refine wpAnyG.one 8 (by kernel_rfl) (by decide) (by rfl) (fun K hK => ?_)
            simp only [List.getElem_toArray, List.getElem_cons_zero, List.getElem_cons_succ]
            go_simp
            refine (addQ v3 (GV.tr.below hc3) G3.tr (by omega) (by omega) (by omega) (hTw.below hc3)).mono ?_
            rintro e v4 ⟨f4, c4, n4, l4, e4, m4, r4, rfl, G4, hk4⟩
            have hc4 : Below W4.heap.size W4 v4 := bel_tr hc3 hk4
            replace G4 := G4.fit SZ.v3
            have VA4 := VA3.below hk4
            have hB4 : RW < v3.heap.size := hR3
            dsimp only
            refine hK _ _ ⟨fun _ => HBX _ hc4, fun _ => trivial⟩ ?_
            clear hK K
            refine wpAnyG.one 10 (by kernel_rfl) (by decide) (by rfl) (fun K hK => ?_)
            obtain ⟨u0, u1, u2, u3, u4, u5⟩ := id VA4
            simp only [List.getElem_toArray, List.getElem_cons_zero, List.getElem_cons_succ]
            go_simp
            obtain ⟨V, O⟩ := VA4.set (.bool f4) (.slice c4 n4 l4) (.slice e4 m4 r4)
            refine hK _ _ ⟨fun h => absurd h (by decide), fun _ => trivial⟩ ?_
            clear hK K
            refine wpAnyG.done (by kernel_rfl) (NoPanic.normal ?_)
            exact ⟨rfl, RW, f1, c1, n1, l1, e1, m1, r1, f2, c2, n2, l2, e2, m2, r2, f3, c3, n3, l3, e3, m3, r3, f4, c4, n4, l4, e4, m4, r4, rfl, V, (G4.off O hB4).mono (Nat.le_trans hRB (Nat.le_of_lt hB4)), hc4.trans (O.below hRB)⟩
        · simp only [List.getElem_toArray, List.getElem_cons_zero, List.getElem_cons_succ]
          go_simp
          have xa := bel_d0 v1 (.cells #[.bool false, .slice none 0 0, .slice none 0 0] 27)
          have VA1 := var3_new v1 (.bool false) (.slice none 0 0) (.slice none 0 0) 27
          have hRB : W4.heap.size ≤ v1.heap.size := hc1.size
          have hR1 : v1.heap.size < (v1.alloc (.cells #[.bool false, .slice none 0 0, .slice none 0 0] 27)).heap.size := by simp
          replace hc1 := bel_tr hc1 xa
          replace G1 := G1.below xa
          refine hK _ _ ⟨fun _ => HBX _ hc1, fun _ => trivial⟩ ?_
          clear hK K xa
          obtain ⟨RW, hRW⟩ : ∃ RW, v1.heap.size = RW := ⟨_, rfl⟩
          rw [hRW] at VA1 hRB hR1 ⊢
          clear hRW
          generalize v1.alloc (.cells #[.bool false, .slice none 0 0, .slice none 0 0] 27) = vz at *
          clear hk1
          refine wpAnyG.one 6 (by kernel_rfl) (by decide) (by rfl) (fun K hK => ?_)
          simp only [List.getElem_toArray, List.getElem_cons_zero, List.getElem_cons_succ]
          go_simp
          refine (subQ vz G1.tr (GV.tr.below hc1) (by omega) (by omega) (by omega) (hTw.below hc1)).mono ?_
          rintro e v2 ⟨f2, c2, n2, l2, e2, m2, r2, rfl, G2, hk2⟩
          have hc2 : Below W4.heap.size W4 v2 := bel_tr hc1 hk2
          replace G2 := G2.fit SZ.v1
          have VA2 := VA1.below hk2
          have hR2 : RW < v2.heap.size := Nat.lt_of_lt_of_le hR1 hk2.size
          dsimp only
          refine hK _ _ ⟨fun _ => HBX _ hc2, fun _ => trivial⟩ ?_
          clear hK K
          refine wpAnyG.one 7 (by kernel_rfl) (by decide) (by rfl) (fun K hK => ?_)
          simp only [List.getElem_toArray, List.getElem_cons_zero, List.getElem_cons_succ]
          go_simp
          refine (mulQ v2 (htw.below hc2) G2.tr (by omega) (by omega) (by omega) (hTw.below hc2)).mono ?_
          rintro e v3 ⟨f3, c3, n3, l3, e3, m3, r3, rfl, G3, hk3⟩
          have hc3 : Below W4.heap.size W4 v3 := bel_tr hc2 hk3
          replace G3 := G3.fit SZ.v2
          have VA3 := VA2.below hk3
          have hR3 : RW < v3.heap.size := Nat.lt_of_lt_of_le hR2 hk3.size
          dsimp only
          refine hK _ _ ⟨fun _ => HBX _ hc3, fun _ => trivial⟩ ?_
          clear hK K
          refine wpAnyG.one 8 (by kernel_rfl) (by decide) (by rfl) (fun K hK => ?_)
          simp only [List.getElem_toArray, List.getElem_cons_zero, List.getElem_cons_succ]
          go_simp
          refine (addQ v3 (GV.tr.below hc3) G3.tr (by omega) (by omega) (by omega) (hTw.below hc3)).mono ?_
          rintro e v4 ⟨f4, c4, n4, l4, e4, m4, r4, rfl, G4, hk4⟩
          have hc4 : Below W4.heap.size W4 v4 := bel_tr hc3 hk4
          replace G4 := G4.fit SZ.v3
          have VA4 := VA3.below hk4
          have hB4 : RW < v3.heap.size := hR3
          dsimp only
          refine hK _ _ ⟨fun _ => HBX _ hc4, fun _ => trivial⟩ ?_
          clear hK K
          refine wpAnyG.one 10 (by kernel_rfl) (by decide) (by rfl) (fun K hK => ?_)
          obtain ⟨u0, u1, u2, u3, u4, u5⟩ := id VA4
          simp only [List.getElem_toArray, List.getElem_cons_zero, List.getElem_cons_succ]
          go_simp
          obtain ⟨V, O⟩ := VA4.set (.bool f4) (.slice c4 n4 l4) (.slice e4 m4 r4)
          refine hK _ _ ⟨fun h => absurd h (by decide), fun _ => trivial⟩ ?_
          clear hK K
          refine wpAnyG.done (by kernel_rfl) (NoPanic.normal ?_)
          exact ⟨rfl, RW, f1, c1, n1, l1, e1, m1, r1, f2, c2, n2, l2, e2, m2, r2, f3, c3, n3, l3, e3, m3, r3, f4, c4, n4, l4, e4, m4, r4, rfl, V, (G4.off O hB4).mono (Nat.le_trans hRB (Nat.le_of_lt hB4)), hc4.trans (O.below hRB)⟩
      · simp only [List.getElem_toArray, List.getElem_cons_zero, List.getElem_cons_succ]
        go_simp
        have xa := bel_d0 v0 (.cells #[.bool false, .slice none 0 0, .slice none 0 0] 27)
        have VA0 := var3_new v0 (.bool false) (.slice none 0 0) (.slice none 0 0) 27
        have hRB : W4.heap.size ≤ v0.heap.size := hc0.size
        have hR0 : v0.heap.size < (v0.alloc (.cells #[.bool false, .slice none 0 0, .slice none 0 0] 27)).heap.size := by simp
        replace hc0 := bel_tr hc0 xa
        refine hK _ _ ⟨fun _ => HBX _ hc0, fun _ => trivial⟩ ?_
        clear hK K xa
        obtain ⟨RW, hRW⟩ : ∃ RW, v0.heap.size = RW := ⟨_, rfl⟩
        rw [hRW] at VA0 hRB hR0 ⊢
        clear hRW
        generalize v0.alloc (.cells #[.bool false, .slice none 0 0, .slice none 0 0] 27) = vz at *
        refine wpAnyG.one 4 (by kernel_rfl) (by decide) (by rfl) (fun K hK => ?_)
        simp only [List.getElem_toArray, List.getElem_cons_zero, List.getElem_cons_succ]
        go_simp
        refine (HVY vz (bel_tr hbW hc0)).mono ?_
        rintro e v1 ⟨f1, c1, n1, l1, e1, m1, r1, rfl, G1, hk1⟩
        have hc1 : Below W4.heap.size W4 v1 := bel_tr hc0 hk1
        skip
        have VA1 := VA0.below hk1
        have hR1 : RW < v1.heap.size := Nat.lt_of_lt_of_le hR0 hk1.size
        dsimp only
        refine hK _ _ ⟨fun _ => HBX _ hc1, fun _ => trivial⟩ ?_
        clear hK K
        refine wpAnyG.one 6 (by kernel_rfl) (by decide) (by rfl) (fun K hK => ?_)
        simp only [List.getElem_toArray, List.getElem_cons_zero, List.getElem_cons_succ]
        go_simp
        refine (subQ v1 G1.tr (GV.tr.below hc1) (by omega) (by omega) (by omega) (hTw.below hc1)).mono ?_
        rintro e v2 ⟨f2, c2, n2, l2, e2, m2, r2, rfl, G2, hk2⟩
        have hc2 : Below W4.heap.size W4 v2 := bel_tr hc1 hk2
        replace G2 := G2.fit SZ.v1
        have VA2 := VA1.below hk2
        have hR2 : RW < v2.heap.size := Nat.lt_of_lt_of_le hR1 hk2.size
        dsimp only
        refine hK _ _ ⟨fun _ => HBX _ hc2, fun _ => trivial⟩ ?_
        clear hK K
        refine wpAnyG.one 7 (by kernel_rfl) (by decide) (by rfl) (fun K hK => ?_)
        simp only [List.getElem_toArray, List.getElem_cons_zero, List.getElem_cons_succ]
        go_simp
        refine (mulQ v2 (htw.below hc2) G2.tr (by omega) (by omega) (by omega) (hTw.below hc2)).mono ?_
        rintro e v3 ⟨f3, c3, n3, l3, e3, m3, r3, rfl, G3, hk3⟩
        have hc3 : Below W4.heap.size W4 v3 := bel_tr hc2 hk3
        replace G3 := G3.fit SZ.v2
        have VA3 := VA2.below hk3
        have hR3 : RW < v3.heap.size := Nat.lt_of_lt_of_le hR2 hk3.size
        dsimp only
        refine hK _ _ ⟨fun _ => HBX _ hc3, fun _ => trivial⟩ ?_
        clear hK K
        refine wpAnyG.one 8 (by kernel_rfl) (by decide) (by rfl) (fun K hK => ?_)
        simp only [List.getElem_toArray, List.getElem_cons_zero, List.getElem_cons_succ]
        go_simp
        refine (addQ v3 (GV.tr.below hc3) G3.tr (by omega) (by omega) (by omega) (hTw.below hc3)).mono ?_
        rintro e v4 ⟨f4, c4, n4, l4, e4, m4, r4, rfl, G4, hk4⟩
        have hc4 : Below W4.heap.size W4 v4 := bel_tr hc3 hk4
        replace G4 := G4.fit SZ.v3
        have VA4 := VA3.below hk4
        have hB4 : RW < v3.heap.size := hR3
        dsimp only
        refine hK _ _ ⟨fun _ => HBX _ hc4, fun _ => trivial⟩ ?_
        clear hK K
        refine wpAnyG.one 10 (by kernel_rfl) (by decide) (by rfl) (fun K hK => ?_)
        obtain ⟨u0, u1, u2, u3, u4, u5⟩ := id VA4
        simp only [List.getElem_toArray, List.getElem_cons_zero, List.getElem_cons_succ]
        go_simp
        obtain ⟨V, O⟩ := VA4.set (.bool f4) (.slice c4 n4 l4) (.slice e4 m4 r4)
        refine hK _ _ ⟨fun h => absurd h (by decide), fun _ => trivial⟩ ?_
        clear hK K
        refine wpAnyG.done (by kernel_rfl) (NoPanic.normal ?_)
        exact ⟨rfl, RW, f1, c1, n1, l1, e1, m1, r1, f2, c2, n2, l2, e2, m2, r2, f3, c3, n3, l3, e3, m3, r3, f4, c4, n4, l4, e4, m4, r4, rfl, V, (G4.off O hB4).mono (Nat.le_trans hRB (Nat.le_of_lt hB4)), hc4.trans (O.below hRB)⟩
    rintro a' w5 ⟨RW, f1, c1, n1, l1, e1, m1, r1, f2, c2, n2, l2, e2, m2, r2, f3, c3, n3, l3, e3, m3, r3, f4, c4, n4, l4, e4, m4, r4, rfl, VW, GW, h5⟩
    simp only [Act.put, List.setIfInBounds_toArray, List.set_cons_zero, List.set_cons_succ]
    clear HB y0 y1 y2 y3 y4 y5 y6 y7 y8 y9 y10 y11 y12 HVY GV V0
    replace Pb := Pb.below h5
    replace T0 := T0.below h5
    have hb5 := bel_tr hbW h5
    replace h2 := bel_tr h2 h5
    clear h5 hTw htw hbW
    have HE : Hid (rsum (prt P.k P.V (fun j => btw t (X j) (Y j))) (min q P.vn + 1) = btw t (rsum (prt P.k P.V X) (min q P.vn + 1)) (rsum (prt P.k P.V Y) (min q P.vn + 1))) := val_btw _ _ _ _ _ _
    have HB : ∀ w', Below w5.heap.size w5 w' → (w'.cell? ⟨RW, 0, none⟩ = some (.bool f4) ∧ w'.cell? ⟨RW, 1, none⟩ = some (.slice c4 n4 l4) ∧ w'.cell? ⟨RW, 2, none⟩ = some (.slice e4 m4 r4) ∧ w'.cell? ⟨w.heap.size, 0, none⟩ = some (.bool P.mx) ∧ w'.cell? ⟨w.heap.size, 1, none⟩ = some (.string P.nm) ∧ w'.cell? ⟨w.heap.size, 2, none⟩ = some (.bool P.p) ∧ w'.cell? ⟨w.heap.size, 3, none⟩ = some (.slice P.a P.na P.ca) ∧ w'.cell? ⟨w.heap.size, 4, none⟩ = some (.slice P.d P.nd P.cd) ∧ w'.cell? ⟨w.heap.size, 5, none⟩ = some (.slice P.va P.vn P.vc) ∧ w'.cell? ⟨w.heap.size, 6, none⟩ = some (.slice P.ra P.rn P.rc)) := fun w' h => ⟨kept_c h VW.c0, kept_c h VW.c1, kept_c h VW.c2, kept_c h (Pb 0 _ rfl), kept_c h (Pb 1 _ rfl), kept_c h (Pb 2 _ rfl), kept_c h (Pb 3 _ rfl), kept_c h (Pb 4 _ rfl), kept_c h (Pb 5 _ rfl), kept_c h (Pb 6 _ rfl)⟩
    obtain ⟨y0, y1, y2, y3, y4, y5, y6, y7, y8, y9⟩ := HB w5 (Below.refl _ _)
    go_wp2_with fail
    go_region_held3 (fun w' => w'.cell? ⟨RW, 0, none⟩ = some (.bool f4) ∧ w'.cell? ⟨RW, 1, none⟩ = some (.slice c4 n4 l4) ∧ w'.cell? ⟨RW, 2, none⟩ = some (.slice e4 m4 r4) ∧ w'.cell? ⟨w.heap.size, 0, none⟩ = some (.bool P.mx) ∧ w'.cell? ⟨w.heap.size, 1, none⟩ = some (.string P.nm) ∧ w'.cell? ⟨w.heap.size, 2, none⟩ = some (.bool P.p) ∧ w'.cell? ⟨w.heap.size, 3, none⟩ = some (.slice P.a P.na P.ca) ∧ w'.cell? ⟨w.heap.size, 4, none⟩ = some (.slice P.d P.nd P.cd) ∧ w'.cell? ⟨w.heap.size, 5, none⟩ = some (.slice P.va P.vn P.vc) ∧ w'.cell? ⟨w.heap.size, 6, none⟩ = some (.slice P.ra P.rn P.rc))
      (with_reducible refine HB _ ?_; repeat' (first | with_reducible exact hc2 | with_reducible exact hc1 | with_reducible exact Below.refl _ _ | with_reducible refine bel_dr ?_ | with_reducible refine bel_a ?_ | with_reducible refine bel_s3 ?_ ?_ | omega))
      ((first
        | (go_at_call 24; go_fit (HVZ _ (bel_tr hb5 (by first | exact bel_d1 _ | exact Below.refl _ _)) (bel_tr h2 (by first | exact bel_d1 _ | exact Below.refl _ _))); rintro e v1 ⟨g1, u1, i1, j1, o1, s1, x1, rfl, GZ, hk1⟩; have hc1 : Below w5.heap.size w5 v1 := (by first | exact bel_tr (bel_d1 _) hk1 | exact hk1))
        | (go_at_call 23; go_fit (cmpB 0 _ (GZ.tr.below (by first | exact Below.refl _ _ | exact bel_d1 _)) (GW.tr.below (bel_tr hc1 (by first | exact Below.refl _ _ | exact bel_d1 _))) (by omega) (by omega) (by omega) (cs_same HE.out)); rintro e v2 ⟨rfl, hk2⟩; have hc2 : Below w5.heap.size w5 v2 := (by first | exact bel_tr hc1 hk2 | exact bel_tr (bel_tr hc1 (bel_d1 _)) hk2))))
    replace Pb := Pb.below hc2
    replace T0 := T0.below hc2
    replace hb5 := bel_tr hb5 hc2
    replace h2 := bel_tr h2 hc2
    clear HB y0 y1 y2 y3 y4 y5 y6 y7 y8 y9 HVZ GW VW hc1 hc2 hk1 hk2 GZ HE
    obtain ⟨Dx, dx1, dx2, dx3⟩ := OX
    obtain ⟨Dy, dy1, dy2, dy3⟩ := OY
    obtain ⟨Dz, dz1, dz2, dz3⟩ := OZ
    have HSX : ∀ w1, Below w.heap.size w w1 → _ := fun w1 hb => sumsQ P (T := 2097160) (S := 3145736) (m := min q P.vn) (dx := Kx) (ax := Kx + 2) w1 (hP.below hb) (hx.below hb) hxc rfl (fun i j hi hj => ⟨(hzx j (by omega)).1, by have := hZR i hi; have := hZx j (by omega); omega⟩) (by omega) (by omega) dx1 dx2 (Int.le_of_lt (pw_pos _)) (pw_lt1 _) (fun j hj => dx3 j (by omega)) (fun i hi => by have := hZR i hi; omega) (by omega) (by omega) (hT.below hb)
    have HSY : ∀ w1, Below w.heap.size w w1 → _ := fun w1 hb => sumsQ P (T := 2097160) (S := 3145736) (m := min q P.vn) (dx := Ky) (ax := Ky + 2) w1 (hP.below hb) (hy.below hb) hyc rfl (fun i j hi hj => ⟨(hzy j (by omega)).1, by have := hZR i hi; have := hZy j (by omega); omega⟩) (by omega) (by omega) dy1 dy2 (Int.le_of_lt (pw_pos _)) (pw_lt1 _) (fun j hj => dy3 j (by omega)) (fun i hi => by have := hZR i hi; omega) (by omega) (by omega) (hT.below hb)
    have HSZ : ∀ w1, Below w.heap.size w w1 → Below w2.heap.size w2 w1 → _ := fun w1 hb hb2 => sumsQ P (T := 2097160) (S := 3145736) (m := min q P.vn) (dx := Kx + Ky + Kt) (ax := Kx + Ky + Kt + 6) w1 (hP.below hb) (hz.below hb2) hzc rfl (fun i j hi hj => ⟨by show 1 ≤ 2097160; omega, by have := hZR i hi; show P.ZR i + 2097160 ≤ _; omega⟩) (by omega) (by omega) dz1 dz2 (Int.le_of_lt (pw_pos _)) (pw_lt1 _) (fun j hj => dz3 j (by omega)) (fun i hi => by have := hZR i hi; omega) (by omega) (by omega) (hT.below hb)
    have HB : ∀ w', Below v2.heap.size v2 w' → (w'.cell? ⟨(w.heap.size + 1), 0, none⟩ = some (.bool p) ∧ w'.cell? ⟨(w.heap.size + 1), 1, none⟩ = some (.slice a na ca) ∧ w'.cell? ⟨(w.heap.size + 1), 2, none⟩ = some (.slice d nd cd) ∧ w'.cell? ⟨w.heap.size, 0, none⟩ = some (.bool P.mx) ∧ w'.cell? ⟨w.heap.size, 1, none⟩ = some (.string P.nm) ∧ w'.cell? ⟨w.heap.size, 2, none⟩ = some (.bool P.p) ∧ w'.cell? ⟨w.heap.size, 3, none⟩ = some (.slice P.a P.na P.ca) ∧ w'.cell? ⟨w.heap.size, 4, none⟩ = some (.slice P.d P.nd P.cd) ∧ w'.cell? ⟨w.heap.size, 5, none⟩ = some (.slice P.va P.vn P.vc) ∧ w'.cell? ⟨w.heap.size, 6, none⟩ = some (.slice P.ra P.rn P.rc)) := fun w' h => ⟨kept_c h T0.c0, kept_c h T0.c1, kept_c h T0.c2, kept_c h (Pb 0 _ rfl), kept_c h (Pb 1 _ rfl), kept_c h (Pb 2 _ rfl), kept_c h (Pb 3 _ rfl), kept_c h (Pb 4 _ rfl), kept_c h (Pb 5 _ rfl), kept_c h (Pb 6 _ rfl)⟩
    obtain ⟨y0, y1, y2, y3, y4, y5, y6, y7, y8, y9⟩ := HB v2 (Below.refl _ _)
    go_wp2_with fail
    go_region_held3 (fun w' => w'.cell? ⟨(w.heap.size + 1), 0, none⟩ = some (.bool p) ∧ w'.cell? ⟨(w.heap.size + 1), 1, none⟩ = some (.slice a na ca) ∧ w'.cell? ⟨(w.heap.size + 1), 2, none⟩ = some (.slice d nd cd) ∧ w'.cell? ⟨w.heap.size, 0, none⟩ = some (.bool P.mx) ∧ w'.cell? ⟨w.heap.size, 1, none⟩ = some (.string P.nm) ∧ w'.cell? ⟨w.heap.size, 2, none⟩ = some (.bool P.p) ∧ w'.cell? ⟨w.heap.size, 3, none⟩ = some (.slice P.a P.na P.ca) ∧ w'.cell? ⟨w.heap.size, 4, none⟩ = some (.slice P.d P.nd P.cd) ∧ w'.cell? ⟨w.heap.size, 5, none⟩ = some (.slice P.va P.vn P.vc) ∧ w'.cell? ⟨w.heap.size, 6, none⟩ = some (.slice P.ra P.rn P.rc))
      (with_reducible refine HB _ ?_; repeat' (first | with_reducible exact hc5 | with_reducible exact hc4 | with_reducible exact hc3 | with_reducible exact hc2 | with_reducible exact hc1 | with_reducible exact Below.refl _ _ | with_reducible refine bel_dr ?_ | with_reducible refine bel_a ?_ | with_reducible refine bel_s3 ?_ ?_ | omega))
      ((first
        | (go_at_call 26; go_fit (HSZ _ (bel_tr hb5 (by first | exact bel_d1 _ | exact Below.refl _ _)) (bel_tr h2 (by first | exact bel_d1 _ | exact Below.refl _ _))); rintro e u1 ⟨a1, k1, rfl, L1, hk1⟩; have hc1 : Below v2.heap.size v2 u1 := (by first | exact bel_tr (bel_d1 _) hk1 | exact hk1))
        | (go_at_call 26; go_fit (HSX _ (bel_tr hb5 (bel_tr hc1 (by first | exact Below.refl _ _ | exact bel_d1 _)))); rintro e u2 ⟨a2, k2, rfl, L2, hk2⟩; have hc2 : Below v2.heap.size v2 u2 := (by first | exact bel_tr hc1 hk2 | exact bel_tr (bel_tr hc1 (bel_d1 _)) hk2); have hl2 : Below u1.heap.size u1 u2 := (by first | exact hk2 | exact bel_tr (bel_d1 _) hk2))
        | (go_at_call 26; go_fit (HSY _ (bel_tr hb5 (bel_tr hc2 (by first | exact Below.refl _ _ | exact bel_d1 _)))); rintro e u3 ⟨a3, k3, rfl, L3, hk3⟩; have hc3 : Below v2.heap.size v2 u3 := (by first | exact bel_tr hc2 hk3 | exact bel_tr (bel_tr hc2 (bel_d1 _)) hk3); have hl3 : Below u2.heap.size u2 u3 := (by first | exact hk3 | exact bel_tr (bel_d1 _) hk3))
        | (go_at_call 27; go_fit (betweenQ (T := 2097160) (U := 2097160) (q := P.rn) _ (L2.lq.below (bel_tr hl3 (by first | exact Below.refl _ _ | exact bel_d1 _))) (L3.lq.below (by first | exact Below.refl _ _ | exact bel_d1 _)) (ht.below (bel_tr hb5 (bel_tr hc3 (by first | exact Below.refl _ _ | exact bel_d1 _)))) (by omega) (fun j hj => ⟨by show 1 ≤ 2097160; omega, by show 1 ≤ 2097160; omega, by show 2097160 + 2097160 ≤ 6000000; omega, by show 2097160 + 2097160 ≤ 6000000; omega⟩) (by omega) (by omega) (fun j hj => ⟨(SZ.s j hj).1, (SZ.s j hj).2.1⟩) hKt (fun j hj => (SZ.s j hj).2.2) (by omega) (hT.below (bel_tr hb5 (bel_tr hc3 (by first | exact Below.refl _ _ | exact bel_d1 _))))); rintro e u4 ⟨a4, k4, rfl, L4, _, hk4⟩; have hc4 : Below v2.heap.size v2 u4 := (by first | exact bel_tr hc3 hk4 | exact bel_tr (bel_tr hc3 (bel_d1 _)) hk4); have hl4 : Below u3.heap.size u3 u4 := (by first | exact hk4 | exact bel_tr (bel_d1 _) hk4))
        | (go_at_call 25; go_fit (alikeQ _ (L1.lq.below (bel_tr hl2 (bel_tr hl3 (bel_tr hl4 (by first | exact Below.refl _ _ | exact bel_d1 _))))) (L4.below (by first | exact Below.refl _ _ | exact bel_d1 _)) (fun j hj => ⟨by show 1 ≤ 2097160; omega, by show 1 ≤ 2097160; omega, by show 2097160 + 2097160 ≤ 9000000; omega⟩) (fun j hj => cv_btw (P.R j) t X Y (min q P.vn)) (by omega)); rintro e u5 ⟨rfl, hk5⟩; have hc5 : Below v2.heap.size v2 u5 := (by first | exact bel_tr hc4 hk5 | exact bel_tr (bel_tr hc4 (bel_d1 _)) hk5))))
    replace Pb := Pb.below hc5
    replace T0 := T0.below hc5
    replace hb5 := bel_tr hb5 hc5
    replace h2 := bel_tr h2 hc5
    clear HB y0 y1 y2 y3 y4 y5 y6 y7 y8 y9 HSX HSY HSZ hc1 hc2 hc3 hc4 hc5 hk1 hk2 hk3 hk4 hk5 hl2 hl3 hl4 L1 L2 L3 L4
    obtain ⟨sg, esg⟩ : ∃ sg, sg = t.num.sign := ⟨_, rfl⟩
    have ESG : Hid (sg = t.num.sign) := esg
    obtain ⟨cm, ecm⟩ : ∃ cm, cm = cs t ((1 : Int) : Rat) := ⟨_, rfl⟩
    have ECM : Hid (cm = cs t ((1 : Int) : Rat)) := ecm
    obtain ⟨bx, ebx⟩ : ∃ b : Bool, (b = true ↔ Hlds P q X) := by
      by_cases h : Hlds P q X
      · exact ⟨true, fun _ => h, fun _ => rfl⟩
      · exact ⟨false, (fun e => by cases e), fun e => absurd e h⟩
    obtain ⟨bY, ebY⟩ : ∃ b : Bool, (b = true ↔ Hlds P q Y) := by
      by_cases h : Hlds P q Y
      · exact ⟨true, fun _ => h, fun _ => rfl⟩
      · exact ⟨false, (fun e => by cases e), fun e => absurd e h⟩
    have EBX : Hid (bx = true ↔ Hlds P q X) := ebx
    have EBY : Hid (bY = true ↔ Hlds P q Y) := ebY
    clear esg ecm ebx ebY
    have HHX : ∀ w1, Below w.heap.size w w1 → Calls Tryz.prog 16 #[P.val, .slice xa q xc] w1 fun e w' => e = .returned (.bool bx) ∧ Below w1.heap.size w1 w' := fun w1 hb =>
      (holdsQ P (T := 2097160) (S := 3145736) (dx := Kx) (ax := Kx + 2) w1 (hP.below hb) (hx.below hb) hxc (fun j hj => ⟨(hzx j (by omega)).1, by have := hZx j (by omega); omega⟩) (fun i j hi hj => ⟨(hzx j (by omega)).1, by have := hZR i hi; have := hZx j (by omega); omega⟩) (by omega) (by omega) dx1 dx2 (Int.le_of_lt (pw_pos _)) (pw_lt1 _) (fun j hj => dx3 j (by omega)) (fun i hi => by have := hZR i hi; omega) (by omega) (by omega) (hT.below hb)).mono (by
        rintro e w' ⟨b, rfl, hb1, hb2⟩
        have h3 : b = true ↔ bx = true := hb1.trans EBX.out.symm
        have h4 : b = bx := by revert h3; cases b <;> cases bx <;> simp
        subst h4
        exact ⟨rfl, hb2⟩)
    have HHY : ∀ w1, Below w.heap.size w w1 → Calls Tryz.prog 16 #[P.val, .slice ya q yc] w1 fun e w' => e = .returned (.bool bY) ∧ Below w1.heap.size w1 w' := fun w1 hb =>
      (holdsQ P (T := 2097160) (S := 3145736) (dx := Ky) (ax := Ky + 2) w1 (hP.below hb) (hy.below hb) hyc (fun j hj => ⟨(hzy j (by omega)).1, by have := hZy j (by omega); omega⟩) (fun i j hi hj => ⟨(hzy j (by omega)).1, by have := hZR i hi; have := hZy j (by omega); omega⟩) (by omega) (by omega) dy1 dy2 (Int.le_of_lt (pw_pos _)) (pw_lt1 _) (fun j hj => dy3 j (by omega)) (fun i hi => by have := hZR i hi; omega) (by omega) (by omega) (hT.below hb)).mono (by
        rintro e w' ⟨b, rfl, hb1, hb2⟩
        have h3 : b = true ↔ bY = true := hb1.trans EBY.out.symm
        have h4 : b = bY := by revert h3; cases b <;> cases bY <;> simp
        subst h4
        exact ⟨rfl, hb2⟩)
    have HHZ : ∀ w1, Below w.heap.size w w1 → Below w2.heap.size w2 w1 → _ := fun w1 hb hb2 => holdsQ P (T := 2097160) (S := 3145736) (dx := Kx + Ky + Kt) (ax := Kx + Ky + Kt + 6) w1 (hP.below hb) (hz.below hb2) hzc (fun j hj => ⟨by show 1 ≤ 2097160; omega, by show 2097160 ≤ 6000000; omega⟩) (fun i j hi hj => ⟨by show 1 ≤ 2097160; omega, by have := hZR i hi; show P.ZR i + 2097160 ≤ _; omega⟩) (by omega) (by omega) dz1 dz2 (Int.le_of_lt (pw_pos _)) (pw_lt1 _) (fun j hj => dz3 j (by omega)) (fun i hi => by have := hZR i hi; omega) (by omega) (by omega) (hT.below hb)
    go_wp2_with fail
    by_cases hs : sg < 0
    · clear HHX HHY HHZ
      have HBX : ∀ w', Below u5.heap.size u5 w' → BoxC w' (w.heap.size + 1) [.bool p, .slice a na ca, .slice d nd cd] ∧ BoxC w' w.heap.size [.bool P.mx, .string P.nm, .bool P.p, .slice P.a P.na P.ca, .slice P.d P.nd P.cd, .slice P.va P.vn P.vc, .slice P.ra P.rn P.rc] := fun w' h => ⟨(boxV3 T0).below h, Pb.below h⟩
      refine wp_region_noPanic (wp_region_guard (fun _ w' => BoxC w' (w.heap.size + 1) [.bool p, .slice a na ca, .slice d nd cd] ∧ BoxC w' w.heap.size [.bool P.mx, .string P.nm, .bool P.p, .slice P.a P.na P.ca, .slice P.d P.nd P.cd, .slice P.va P.vn P.vc, .slice P.ra P.rn P.rc]) (by kernel_rfl) ?_)
      have hc0 : Below u5.heap.size u5 u5.drew := bel_d1 _
      generalize u5.drew = z0 at *
      refine wpAnyG.take 0 (v := .agg #[.bool p, .slice a na ca, .slice d nd cd]) (by decide) (by kernel_rfl) (fun _ _ _ h => h) 1 _ (by rfl) (fun _ _ => Iff.rfl) (fun _ _ _ h => h) (by kernel_rfl) (by kernel_rfl) (by kernel_rfl) (by rfl) ?y0 (HBX _ hc0) (by rfl) ?_
      case y0 =>
        rintro w' ⟨hA5, hB5⟩
        have qhA50 := hA5 0 _ rfl; have qhA51 := hA5 1 _ rfl; have qhA52 := hA5 2 _ rfl
        simp only [List.getElem_toArray, List.getElem_cons_zero]
        go_simp
      simp only [List.getElem_toArray, List.getElem_cons_zero, Act.put, List.setIfInBounds_toArray, List.set_cons_zero, List.set_cons_succ]
      refine wpAnyG.one 1 (by kernel_rfl) (by decide) (by rfl) (fun K hK => ?_)
      simp only [List.getElem_toArray, List.getElem_cons_zero, List.getElem_cons_succ]
      go_simp
      refine (rsignB sg z0 (ht.below (bel_tr hb5 hc0)) (by omega) hKt ESG.out).mono ?_
      rintro e z1 ⟨rfl, hk1⟩
      have hc1 : Below u5.heap.size u5 z1 := bel_tr hc0 hk1
      dsimp only
      refine hK _ _ (HBX z1 hc1) ?_
      clear hK K
      refine wpAnyG.take 2 (v := .bool true) (by decide) (by kernel_rfl) (fun _ _ _ h => h) 3 _ (by rfl) (fun _ _ => Iff.rfl) (fun _ _ _ h => h) (by kernel_rfl) (by kernel_rfl) (by kernel_rfl) (by rfl) ?y2 (HBX _ hc1) (by rfl) ?_
      case y2 =>
        rintro w' ⟨hA5, hB5⟩
        skip
        simp only [List.getElem_toArray, List.getElem_cons_zero, List.getElem_cons_succ]
        go_simp
      simp only [List.getElem_toArray, List.getElem_cons_zero, List.getElem_cons_succ, Act.put, List.setIfInBounds_toArray, List.set_cons_zero, List.set_cons_succ]
      refine wpAnyG.take 3 (v := .bool true) (by decide) (by kernel_rfl) (fun _ _ _ h => h) 8 _ (by rfl) (fun _ _ => Iff.rfl) (fun _ _ _ h => h) (by kernel_rfl) (by kernel_rfl) (by kernel_rfl) (by rfl) ?y3 (HBX _ hc1) (by rfl) ?_
      case y3 =>
        rintro w' ⟨hA5, hB5⟩
        skip
        simp only [List.getElem_toArray, List.getElem_cons_zero, List.getElem_cons_succ]
        go_simp
      simp only [List.getElem_toArray, List.getElem_cons_zero, List.getElem_cons_succ, Act.put, List.setIfInBounds_toArray, List.set_cons_zero, List.set_cons_succ]
      refine wpAnyG.skip 4 (by decide) (by kernel_rfl) (fun _ _ _ h => h) 6 (by rfl) (fun _ _ => Iff.rfl) (by kernel_rfl) (by kernel_rfl) (by kernel_rfl) (by rfl) (HBX _ hc1) (by rfl) ?_
      simp only [List.getElem_toArray, List.getElem_cons_zero, List.getElem_cons_succ, Act.put, List.setIfInBounds_toArray, List.set_cons_zero, List.set_cons_succ]
      refine wpAnyG.skip 5 (by decide) (by kernel_rfl) (fun _ _ _ h => h) 6 (by rfl) (fun _ _ => Iff.rfl) (by kernel_rfl) (by kernel_rfl) (by kernel_rfl) (by rfl) (HBX _ hc1) (by rfl) ?_
      simp only [List.getElem_toArray, List.getElem_cons_zero, List.getElem_cons_succ, Act.put, List.setIfInBounds_toArray, List.set_cons_zero, List.set_cons_succ]
      refine wpAnyG.skip 6 (by decide) (by kernel_rfl) (fun _ _ _ h => h) 7 (by rfl) (fun _ _ => Iff.rfl) (by kernel_rfl) (by kernel_rfl) (by kernel_rfl) (by rfl) (HBX _ hc1) (by rfl) ?_
      simp only [List.getElem_toArray, List.getElem_cons_zero, List.getElem_cons_succ, Act.put, List.setIfInBounds_toArray, List.set_cons_zero, List.set_cons_succ]
      refine wpAnyG.skip 7 (by decide) (by kernel_rfl) (fun _ _ _ h => h) 8 (by rfl) (fun _ _ => Iff.rfl) (by kernel_rfl) (by kernel_rfl) (by kernel_rfl) (by rfl) (HBX _ hc1) (by rfl) ?_
      simp only [List.getElem_toArray, List.getElem_cons_zero, List.getElem_cons_succ, Act.put, List.setIfInBounds_toArray, List.set_cons_zero, List.set_cons_succ]
      refine wpAnyG.take 8 (v := .bool true) (by decide) (by kernel_rfl) (fun _ _ _ h => h) 9 _ (by rfl) (fun _ _ => Iff.rfl) (fun _ _ _ h => h) (by kernel_rfl) (by kernel_rfl) (by kernel_rfl) (by rfl) ?y8 (HBX _ hc1) (by rfl) ?_
      case y8 =>
        rintro w' ⟨hA5, hB5⟩
        skip
        simp only [List.getElem_toArray, List.getElem_cons_zero, List.getElem_cons_succ]
        go_simp
      simp only [List.getElem_toArray, List.getElem_cons_zero, List.getElem_cons_succ, Act.put, List.setIfInBounds_toArray, List.set_cons_zero, List.set_cons_succ]
      refine wpAnyG.take 9 (v := .bool true) (by decide) (by kernel_rfl) (fun _ _ _ h => h) 14 _ (by rfl) (fun _ _ => Iff.rfl) (fun _ _ _ h => h) (by kernel_rfl) (by kernel_rfl) (by kernel_rfl) (by rfl) ?y9 (HBX _ hc1) (by rfl) ?_
      case y9 =>
        rintro w' ⟨hA5, hB5⟩
        skip
        simp only [List.getElem_toArray, List.getElem_cons_zero, List.getElem_cons_succ]
        go_simp
      simp only [List.getElem_toArray, List.getElem_cons_zero, List.getElem_cons_succ, Act.put, List.setIfInBounds_toArray, List.set_cons_zero, List.set_cons_succ]
      refine wpAnyG.skip 10 (by decide) (by kernel_rfl) (fun _ _ _ h => h) 12 (by rfl) (fun _ _ => Iff.rfl) (by kernel_rfl) (by kernel_rfl) (by kernel_rfl) (by rfl) (HBX _ hc1) (by rfl) ?_
      simp only [List.getElem_toArray, List.getElem_cons_zero, List.getElem_cons_succ, Act.put, List.setIfInBounds_toArray, List.set_cons_zero, List.set_cons_succ]
      refine wpAnyG.skip 11 (by decide) (by kernel_rfl) (fun _ _ _ h => h) 12 (by rfl) (fun _ _ => Iff.rfl) (by kernel_rfl) (by kernel_rfl) (by kernel_rfl) (by rfl) (HBX _ hc1) (by rfl) ?_
      simp only [List.getElem_toArray, List.getElem_cons_zero, List.getElem_cons_succ, Act.put, List.setIfInBounds_toArray, List.set_cons_zero, List.set_cons_succ]
      refine wpAnyG.skip 12 (by decide) (by kernel_rfl) (fun _ _ _ h => h) 13 (by rfl) (fun _ _ => Iff.rfl) (by kernel_rfl) (by kernel_rfl) (by kernel_rfl) (by rfl) (HBX _ hc1) (by rfl) ?_
      simp only [List.getElem_toArray, List.getElem_cons_zero, List.getElem_cons_succ, Act.put, List.setIfInBounds_toArray, List.set_cons_zero, List.set_cons_succ]
      refine wpAnyG.skip 13 (by decide) (by kernel_rfl) (fun _ _ _ h => h) 14 (by rfl) (fun _ _ => Iff.rfl) (by kernel_rfl) (by kernel_rfl) (by kernel_rfl) (by rfl) (HBX _ hc1) (by rfl) ?_
      simp only [List.getElem_toArray, List.getElem_cons_zero, List.getElem_cons_succ, Act.put, List.setIfInBounds_toArray, List.set_cons_zero, List.set_cons_succ]
      refine wpAnyG.take 14 (v := .bool true) (by decide) (by kernel_rfl) (fun _ _ _ h => h) 15 _ (by rfl) (fun _ _ => Iff.rfl) (fun _ _ _ h => h) (by kernel_rfl) (by kernel_rfl) (by kernel_rfl) (by rfl) ?y14 (HBX _ hc1) (by rfl) ?_
      case y14 =>
        rintro w' ⟨hA5, hB5⟩
        skip
        simp only [List.getElem_toArray, List.getElem_cons_zero, List.getElem_cons_succ]
        go_simp
      simp only [List.getElem_toArray, List.getElem_cons_zero, List.getElem_cons_succ, Act.put, List.setIfInBounds_toArray, List.set_cons_zero, List.set_cons_succ]
      refine wpAnyG.take 15 (v := .bool true) (by decide) (by kernel_rfl) (fun _ _ _ h => h) 20 _ (by rfl) (fun _ _ => Iff.rfl) (fun _ _ _ h => h) (by kernel_rfl) (by kernel_rfl) (by kernel_rfl) (by rfl) ?y15 (HBX _ hc1) (by rfl) ?_
      case y15 =>
        rintro w' ⟨hA5, hB5⟩
        skip
        simp only [List.getElem_toArray, List.getElem_cons_zero, List.getElem_cons_succ]
        go_simp
      simp only [List.getElem_toArray, List.getElem_cons_zero, List.getElem_cons_succ, Act.put, List.setIfInBounds_toArray, List.set_cons_zero, List.set_cons_succ]
      refine wpAnyG.skip 16 (by decide) (by kernel_rfl) (fun _ _ _ h => h) 18 (by rfl) (fun _ _ => Iff.rfl) (by kernel_rfl) (by kernel_rfl) (by kernel_rfl) (by rfl) (HBX _ hc1) (by rfl) ?_
      simp only [List.getElem_toArray, List.getElem_cons_zero, List.getElem_cons_succ, Act.put, List.setIfInBounds_toArray, List.set_cons_zero, List.set_cons_succ]
      refine wpAnyG.skip 17 (by decide) (by kernel_rfl) (fun _ _ _ h => h) 18 (by rfl) (fun _ _ => Iff.rfl) (by kernel_rfl) (by kernel_rfl) (by kernel_rfl) (by rfl) (HBX _ hc1) (by rfl) ?_
      simp only [List.getElem_toArray, List.getElem_cons_zero, List.getElem_cons_succ, Act.put, List.setIfInBounds_toArray, List.set_cons_zero, List.set_cons_succ]
      refine wpAnyG.skip 18 (by decide) (by kernel_rfl) (fun _ _ _ h => h) 19 (by rfl) (fun _ _ => Iff.rfl) (by kernel_rfl) (by kernel_rfl) (by kernel_rfl) (by rfl) (HBX _ hc1) (by rfl) ?_
      simp only [List.getElem_toArray, List.getElem_cons_zero, List.getElem_cons_succ, Act.put, List.setIfInBounds_toArray, List.set_cons_zero, List.set_cons_succ]
      refine wpAnyG.skip 19 (by decide) (by kernel_rfl) (fun _ _ _ h => h) 20 (by rfl) (fun _ _ => Iff.rfl) (by kernel_rfl) (by kernel_rfl) (by kernel_rfl) (by rfl) (HBX _ hc1) (by rfl) ?_
      simp only [List.getElem_toArray, List.getElem_cons_zero, List.getElem_cons_succ, Act.put, List.setIfInBounds_toArray, List.set_cons_zero, List.set_cons_succ]
      refine wpAnyG.one 20 (by kernel_rfl) (by decide) (by rfl) (fun K hK => ?_)
      simp only [List.getElem_toArray, List.getElem_cons_zero, List.getElem_cons_succ]
      go_simp
      refine hK _ _ (HBX _ hc1) ?_
      clear hK K
      refine wpAnyG.done (by kernel_rfl) (NoPanic.normal ?_)
      go_wp2
      go_ret
      exact ⟨rfl, bel_tr hb5 hc1⟩
    by_cases hm : 0 < cm
    · clear HHX HHY HHZ
      have HBX : ∀ w', Below u5.heap.size u5 w' → BoxC w' (w.heap.size + 1) [.bool p, .slice a na ca, .slice d nd cd] ∧ BoxC w' w.heap.size [.bool P.mx, .string P.nm, .bool P.p, .slice P.a P.na P.ca, .slice P.d P.nd P.cd, .slice P.va P.vn P.vc, .slice P.ra P.rn P.rc] := fun w' h => ⟨(boxV3 T0).below h, Pb.below h⟩
      refine wp_region_noPanic (wp_region_guard (fun _ w' => BoxC w' (w.heap.size + 1) [.bool p, .slice a na ca, .slice d nd cd] ∧ BoxC w' w.heap.size [.bool P.mx, .string P.nm, .bool P.p, .slice P.a P.na P.ca, .slice P.d P.nd P.cd, .slice P.va P.vn P.vc, .slice P.ra P.rn P.rc]) (by kernel_rfl) ?_)
      have hc0 : Below u5.heap.size u5 u5.drew := bel_d1 _
      generalize u5.drew = z0 at *
      refine wpAnyG.take 0 (v := .agg #[.bool p, .slice a na ca, .slice d nd cd]) (by decide) (by kernel_rfl) (fun _ _ _ h => h) 1 _ (by rfl) (fun _ _ => Iff.rfl) (fun _ _ _ h => h) (by kernel_rfl) (by kernel_rfl) (by kernel_rfl) (by rfl) ?y0 (HBX _ hc0) (by rfl) ?_
      case y0 =>
        rintro w' ⟨hA5, hB5⟩
        have qhA50 := hA5 0 _ rfl; have qhA51 := hA5 1 _ rfl; have qhA52 := hA5 2 _ rfl
        simp only [List.getElem_toArray, List.getElem_cons_zero]
        go_simp
      simp only [List.getElem_toArray, List.getElem_cons_zero, Act.put, List.setIfInBounds_toArray, List.set_cons_zero, List.set_cons_succ]
      refine wpAnyG.one 1 (by kernel_rfl) (by decide) (by rfl) (fun K hK => ?_)
      simp only [List.getElem_toArray, List.getElem_cons_zero, List.getElem_cons_succ]
      go_simp
      refine (rsignB sg z0 (ht.below (bel_tr hb5 hc0)) (by omega) hKt ESG.out).mono ?_
      rintro e z1 ⟨rfl, hk1⟩
      have hc1 : Below u5.heap.size u5 z1 := bel_tr hc0 hk1
      dsimp only
      refine hK _ _ (HBX z1 hc1) ?_
      clear hK K
      refine wpAnyG.take 2 (v := .bool false) (by decide) (by kernel_rfl) (fun _ _ _ h => h) 3 _ (by rfl) (fun _ _ => Iff.rfl) (fun _ _ _ h => h) (by kernel_rfl) (by kernel_rfl) (by kernel_rfl) (by rfl) ?y2 (HBX _ hc1) (by rfl) ?_
      case y2 =>
        rintro w' ⟨hA5, hB5⟩
        skip
        simp only [List.getElem_toArray, List.getElem_cons_zero, List.getElem_cons_succ]
        go_simp
      simp only [List.getElem_toArray, List.getElem_cons_zero, List.getElem_cons_succ, Act.put, List.setIfInBounds_toArray, List.set_cons_zero, List.set_cons_succ]
      refine wpAnyG.take 3 (v := .bool false) (by decide) (by kernel_rfl) (fun _ _ _ h => h) 8 _ (by rfl) (fun _ _ => Iff.rfl) (fun _ _ _ h => h) (by kernel_rfl) (by kernel_rfl) (by kernel_rfl) (by rfl) ?y3 (HBX _ hc1) (by rfl) ?_
      case y3 =>
        rintro w' ⟨hA5, hB5⟩
        skip
        simp only [List.getElem_toArray, List.getElem_cons_zero, List.getElem_cons_succ]
        go_simp
      simp only [List.getElem_toArray, List.getElem_cons_zero, List.getElem_cons_succ, Act.put, List.setIfInBounds_toArray, List.set_cons_zero, List.set_cons_succ]
      refine wpAnyG.take 4 (v := .agg #[.bool p, .slice a na ca, .slice d nd cd]) (by decide) (by kernel_rfl) (fun _ _ _ h => h) 6 _ (by rfl) (fun _ _ => Iff.rfl) (fun _ _ _ h => h) (by kernel_rfl) (by kernel_rfl) (by kernel_rfl) (by rfl) ?y4 (HBX _ hc1) (by rfl) ?_
      case y4 =>
        rintro w' ⟨hA5, hB5⟩
        have qhA50 := hA5 0 _ rfl; have qhA51 := hA5 1 _ rfl; have qhA52 := hA5 2 _ rfl
        simp only [List.getElem_toArray, List.getElem_cons_zero, List.getElem_cons_succ]
        go_simp
      simp only [List.getElem_toArray, List.getElem_cons_zero, List.getElem_cons_succ, Act.put, List.setIfInBounds_toArray, List.set_cons_zero, List.set_cons_succ]
      refine wpAnyG.one 5 (by kernel_rfl) (by decide) (by rfl) (fun K hK => ?_)
      simp only [List.getElem_toArray, List.getElem_cons_zero, List.getElem_cons_succ]
      go_simp
      refine (ofQ 1 z1 (by decide) (by decide)).mono ?_
      rintro e z2 ⟨f2, c2, n2, l2, e2, m2, r2, rfl, G2, hk2⟩
      have hc2 : Below u5.heap.size u5 z2 := bel_tr hc1 hk2
      dsimp only
      refine hK _ _ (HBX z2 hc2) ?_
      clear hK K
      refine wpAnyG.one 6 (by kernel_rfl) (by decide) (by rfl) (fun K hK => ?_)
      simp only [List.getElem_toArray, List.getElem_cons_zero, List.getElem_cons_succ]
      go_simp
      refine (cmpB cm z2 (ht.below (bel_tr hb5 hc2)) G2.tr (by omega) (by omega) (by omega) ECM.out).mono ?_
      rintro e z3 ⟨rfl, hk3⟩
      have hc3 : Below u5.heap.size u5 z3 := bel_tr hc2 hk3
      dsimp only
      refine hK _ _ (HBX z3 hc3) ?_
      clear hK K
      refine wpAnyG.take 7 (v := .bool true) (by decide) (by kernel_rfl) (fun _ _ _ h => h) 8 _ (by rfl) (fun _ _ => Iff.rfl) (fun _ _ _ h => h) (by kernel_rfl) (by kernel_rfl) (by kernel_rfl) (by rfl) ?y7 (HBX _ hc3) (by rfl) ?_
      case y7 =>
        rintro w' ⟨hA5, hB5⟩
        skip
        simp only [List.getElem_toArray, List.getElem_cons_zero, List.getElem_cons_succ]
        go_simp
      simp only [List.getElem_toArray, List.getElem_cons_zero, List.getElem_cons_succ, Act.put, List.setIfInBounds_toArray, List.set_cons_zero, List.set_cons_succ]
      refine wpAnyG.take 8 (v := .bool true) (by decide) (by kernel_rfl) (fun _ _ _ h => h) 9 _ (by rfl) (fun _ _ => Iff.rfl) (fun _ _ _ h => h) (by kernel_rfl) (by kernel_rfl) (by kernel_rfl) (by rfl) ?y8 (HBX _ hc3) (by rfl) ?_
      case y8 =>
        rintro w' ⟨hA5, hB5⟩
        skip
        simp only [List.getElem_toArray, List.getElem_cons_zero, List.getElem_cons_succ]
        go_simp
      simp only [List.getElem_toArray, List.getElem_cons_zero, List.getElem_cons_succ, Act.put, List.setIfInBounds_toArray, List.set_cons_zero, List.set_cons_succ]
      refine wpAnyG.take 9 (v := .bool true) (by decide) (by kernel_rfl) (fun _ _ _ h => h) 14 _ (by rfl) (fun _ _ => Iff.rfl) (fun _ _ _ h => h) (by kernel_rfl) (by kernel_rfl) (by kernel_rfl) (by rfl) ?y9 (HBX _ hc3) (by rfl) ?_
      case y9 =>
        rintro w' ⟨hA5, hB5⟩
        skip
        simp only [List.getElem_toArray, List.getElem_cons_zero, List.getElem_cons_succ]
        go_simp
      simp only [List.getElem_toArray, List.getElem_cons_zero, List.getElem_cons_succ, Act.put, List.setIfInBounds_toArray, List.set_cons_zero, List.set_cons_succ]
      refine wpAnyG.skip 10 (by decide) (by kernel_rfl) (fun _ _ _ h => h) 12 (by rfl) (fun _ _ => Iff.rfl) (by kernel_rfl) (by kernel_rfl) (by kernel_rfl) (by rfl) (HBX _ hc3) (by rfl) ?_
      simp only [List.getElem_toArray, List.getElem_cons_zero, List.getElem_cons_succ, Act.put, List.setIfInBounds_toArray, List.set_cons_zero, List.set_cons_succ]
      refine wpAnyG.skip 11 (by decide) (by kernel_rfl) (fun _ _ _ h => h) 12 (by rfl) (fun _ _ => Iff.rfl) (by kernel_rfl) (by kernel_rfl) (by kernel_rfl) (by rfl) (HBX _ hc3) (by rfl) ?_
      simp only [List.getElem_toArray, List.getElem_cons_zero, List.getElem_cons_succ, Act.put, List.setIfInBounds_toArray, List.set_cons_zero, List.set_cons_succ]
      refine wpAnyG.skip 12 (by decide) (by kernel_rfl) (fun _ _ _ h => h) 13 (by rfl) (fun _ _ => Iff.rfl) (by kernel_rfl) (by kernel_rfl) (by kernel_rfl) (by rfl) (HBX _ hc3) (by rfl) ?_
      simp only [List.getElem_toArray, List.getElem_cons_zero, List.getElem_cons_succ, Act.put, List.setIfInBounds_toArray, List.set_cons_zero, List.set_cons_succ]
      refine wpAnyG.skip 13 (by decide) (by kernel_rfl) (fun _ _ _ h => h) 14 (by rfl) (fun _ _ => Iff.rfl) (by kernel_rfl) (by kernel_rfl) (by kernel_rfl) (by rfl) (HBX _ hc3) (by rfl) ?_
      simp only [List.getElem_toArray, List.getElem_cons_zero, List.getElem_cons_succ, Act.put, List.setIfInBounds_toArray, List.set_cons_zero, List.set_cons_succ]
      refine wpAnyG.take 14 (v := .bool true) (by decide) (by kernel_rfl) (fun _ _ _ h => h) 15 _ (by rfl) (fun _ _ => Iff.rfl) (fun _ _ _ h => h) (by kernel_rfl) (by kernel_rfl) (by kernel_rfl) (by rfl) ?y14 (HBX _ hc3) (by rfl) ?_
      case y14 =>
        rintro w' ⟨hA5, hB5⟩
        skip
        simp only [List.getElem_toArray, List.getElem_cons_zero, List.getElem_cons_succ]
        go_simp
      simp only [List.getElem_toArray, List.getElem_cons_zero, List.getElem_cons_succ, Act.put, List.setIfInBounds_toArray, List.set_cons_zero, List.set_cons_succ]
      refine wpAnyG.take 15 (v := .bool true) (by decide) (by kernel_rfl) (fun _ _ _ h => h) 20 _ (by rfl) (fun _ _ => Iff.rfl) (fun _ _ _ h => h) (by kernel_rfl) (by kernel_rfl) (by kernel_rfl) (by rfl) ?y15 (HBX _ hc3) (by rfl) ?_
      case y15 =>
        rintro w' ⟨hA5, hB5⟩
        skip
        simp only [List.getElem_toArray, List.getElem_cons_zero, List.getElem_cons_succ]
        go_simp
      simp only [List.getElem_toArray, List.getElem_cons_zero, List.getElem_cons_succ, Act.put, List.setIfInBounds_toArray, List.set_cons_zero, List.set_cons_succ]
      refine wpAnyG.skip 16 (by decide) (by kernel_rfl) (fun _ _ _ h => h) 18 (by rfl) (fun _ _ => Iff.rfl) (by kernel_rfl) (by kernel_rfl) (by kernel_rfl) (by rfl) (HBX _ hc3) (by rfl) ?_
      simp only [List.getElem_toArray, List.getElem_cons_zero, List.getElem_cons_succ, Act.put, List.setIfInBounds_toArray, List.set_cons_zero, List.set_cons_succ]
      refine wpAnyG.skip 17 (by decide) (by kernel_rfl) (fun _ _ _ h => h) 18 (by rfl) (fun _ _ => Iff.rfl) (by kernel_rfl) (by kernel_rfl) (by kernel_rfl) (by rfl) (HBX _ hc3) (by rfl) ?_
      simp only [List.getElem_toArray, List.getElem_cons_zero, List.getElem_cons_succ, Act.put, List.setIfInBounds_toArray, List.set_cons_zero, List.set_cons_succ]
      refine wpAnyG.skip 18 (by decide) (by kernel_rfl) (fun _ _ _ h => h) 19 (by rfl) (fun _ _ => Iff.rfl) (by kernel_rfl) (by kernel_rfl) (by kernel_rfl) (by rfl) (HBX _ hc3) (by rfl) ?_
      simp only [List.getElem_toArray, List.getElem_cons_zero, List.getElem_cons_succ, Act.put, List.setIfInBounds_toArray, List.set_cons_zero, List.set_cons_succ]
      refine wpAnyG.skip 19 (by decide) (by kernel_rfl) (fun _ _ _ h => h) 20 (by rfl) (fun _ _ => Iff.rfl) (by kernel_rfl) (by kernel_rfl) (by kernel_rfl) (by rfl) (HBX _ hc3) (by rfl) ?_
      simp only [List.getElem_toArray, List.getElem_cons_zero, List.getElem_cons_succ, Act.put, List.setIfInBounds_toArray, List.set_cons_zero, List.set_cons_succ]
      refine wpAnyG.one 20 (by kernel_rfl) (by decide) (by rfl) (fun K hK => ?_)
      simp only [List.getElem_toArray, List.getElem_cons_zero, List.getElem_cons_succ]
      go_simp
      refine hK _ _ (HBX _ hc3) ?_
      clear hK K
      refine wpAnyG.done (by kernel_rfl) (NoPanic.normal ?_)
      go_wp2
      go_ret
      exact ⟨rfl, bel_tr hb5 hc3⟩
    cases bx
    · clear HHY HHZ
      have HBX : ∀ w', Below u5.heap.size u5 w' → BoxC w' (w.heap.size + 1) [.bool p, .slice a na ca, .slice d nd cd] ∧ BoxC w' w.heap.size [.bool P.mx, .string P.nm, .bool P.p, .slice P.a P.na P.ca, .slice P.d P.nd P.cd, .slice P.va P.vn P.vc, .slice P.ra P.rn P.rc] := fun w' h => ⟨(boxV3 T0).below h, Pb.below h⟩
      refine wp_region_noPanic (wp_region_guard (fun _ w' => BoxC w' (w.heap.size + 1) [.bool p, .slice a na ca, .slice d nd cd] ∧ BoxC w' w.heap.size [.bool P.mx, .string P.nm, .bool P.p, .slice P.a P.na P.ca, .slice P.d P.nd P.cd, .slice P.va P.vn P.vc, .slice P.ra P.rn P.rc]) (by kernel_rfl) ?_)
      have hc0 : Below u5.heap.size u5 u5.drew := bel_d1 _
      generalize u5.drew = z0 at *
      refine wpAnyG.take 0 (v := .agg #[.bool p, .slice a na ca, .slice d nd cd]) (by decide) (by kernel_rfl) (fun _ _ _ h => h) 1 _ (by rfl) (fun _ _ => Iff.rfl) (fun _ _ _ h => h) (by kernel_rfl) (by kernel_rfl) (by kernel_rfl) (by rfl) ?y0 (HBX _ hc0) (by rfl) ?_
      case y0 =>
        rintro w' ⟨hA5, hB5⟩
        have qhA50 := hA5 0 _ rfl; have qhA51 := hA5 1 _ rfl; have qhA52 := hA5 2 _ rfl
        simp only [List.getElem_toArray, List.getElem_cons_zero]
        go_simp
      simp only [List.getElem_toArray, List.getElem_cons_zero, Act.put, List.setIfInBounds_toArray, List.set_cons_zero, List.set_cons_succ]
      refine wpAnyG.one 1 (by kernel_rfl) (by decide) (by rfl) (fun K hK => ?_)
      simp only [List.getElem_toArray, List.getElem_cons_zero, List.getElem_cons_succ]
      go_simp
      refine (rsignB sg z0 (ht.below (bel_tr hb5 hc0)) (by omega) hKt ESG.out).mono ?_
      rintro e z1 ⟨rfl, hk1⟩
      have hc1 : Below u5.heap.size u5 z1 := bel_tr hc0 hk1
      dsimp only
      refine hK _ _ (HBX z1 hc1) ?_
      clear hK K
      refine wpAnyG.take 2 (v := .bool false) (by decide) (by kernel_rfl) (fun _ _ _ h => h) 3 _ (by rfl) (fun _ _ => Iff.rfl) (fun _ _ _ h => h) (by kernel_rfl) (by kernel_rfl) (by kernel_rfl) (by rfl) ?y2 (HBX _ hc1) (by rfl) ?_
      case y2 =>
        rintro w' ⟨hA5, hB5⟩
        skip
        simp only [List.getElem_toArray, List.getElem_cons_zero, List.getElem_cons_succ]
        go_simp
      simp only [List.getElem_toArray, List.getElem_cons_zero, List.getElem_cons_succ, Act.put, List.setIfInBounds_toArray, List.set_cons_zero, List.set_cons_succ]
      refine wpAnyG.take 3 (v := .bool false) (by decide) (by kernel_rfl) (fun _ _ _ h => h) 8 _ (by rfl) (fun _ _ => Iff.rfl) (fun _ _ _ h => h) (by kernel_rfl) (by kernel_rfl) (by kernel_rfl) (by rfl) ?y3 (HBX _ hc1) (by rfl) ?_
      case y3 =>
        rintro w' ⟨hA5, hB5⟩
        skip
        simp only [List.getElem_toArray, List.getElem_cons_zero, List.getElem_cons_succ]
        go_simp
      simp only [List.getElem_toArray, List.getElem_cons_zero, List.getElem_cons_succ, Act.put, List.setIfInBounds_toArray, List.set_cons_zero, List.set_cons_succ]
      refine wpAnyG.take 4 (v := .agg #[.bool p, .slice a na ca, .slice d nd cd]) (by decide) (by kernel_rfl) (fun _ _ _ h => h) 6 _ (by rfl) (fun _ _ => Iff.rfl) (fun _ _ _ h => h) (by kernel_rfl) (by kernel_rfl) (by kernel_rfl) (by rfl) ?y4 (HBX _ hc1) (by rfl) ?_
      case y4 =>
        rintro w' ⟨hA5, hB5⟩
        have qhA50 := hA5 0 _ rfl; have qhA51 := hA5 1 _ rfl; have qhA52 := hA5 2 _ rfl
        simp only [List.getElem_toArray, List.getElem_cons_zero, List.getElem_cons_succ]
        go_simp
      simp only [List.getElem_toArray, List.getElem_cons_zero, List.getElem_cons_succ, Act.put, List.setIfInBounds_toArray, List.set_cons_zero, List.set_cons_succ]
      refine wpAnyG.one 5 (by kernel_rfl) (by decide) (by rfl) (fun K hK => ?_)
      simp only [List.getElem_toArray, List.getElem_cons_zero, List.getElem_cons_succ]
      go_simp
      refine (ofQ 1 z1 (by decide) (by decide)).mono ?_
      rintro e z2 ⟨f2, c2, n2, l2, e2, m2, r2, rfl, G2, hk2⟩
      have hc2 : Below u5.heap.size u5 z2 := bel_tr hc1 hk2
      dsimp only
      refine hK _ _ (HBX z2 hc2) ?_
      clear hK K
      refine wpAnyG.one 6 (by kernel_rfl) (by decide) (by rfl) (fun K hK => ?_)
      simp only [List.getElem_toArray, List.getElem_cons_zero, List.getElem_cons_succ]
      go_simp
      refine (cmpB cm z2 (ht.below (bel_tr hb5 hc2)) G2.tr (by omega) (by omega) (by omega) ECM.out).mono ?_
      rintro e z3 ⟨rfl, hk3⟩
      have hc3 : Below u5.heap.size u5 z3 := bel_tr hc2 hk3
      dsimp only
      refine hK _ _ (HBX z3 hc3) ?_
      clear hK K
      refine wpAnyG.take 7 (v := .bool false) (by decide) (by kernel_rfl) (fun _ _ _ h => h) 8 _ (by rfl) (fun _ _ => Iff.rfl) (fun _ _ _ h => h) (by kernel_rfl) (by kernel_rfl) (by kernel_rfl) (by rfl) ?y7 (HBX _ hc3) (by rfl) ?_
      case y7 =>
        rintro w' ⟨hA5, hB5⟩
        skip
        simp only [List.getElem_toArray, List.getElem_cons_zero, List.getElem_cons_succ]
        go_simp
      simp only [List.getElem_toArray, List.getElem_cons_zero, List.getElem_cons_succ, Act.put, List.setIfInBounds_toArray, List.set_cons_zero, List.set_cons_succ]
      refine wpAnyG.take 8 (v := .bool false) (by decide) (by kernel_rfl) (fun _ _ _ h => h) 9 _ (by rfl) (fun _ _ => Iff.rfl) (fun _ _ _ h => h) (by kernel_rfl) (by kernel_rfl) (by kernel_rfl) (by rfl) ?y8 (HBX _ hc3) (by rfl) ?_
      case y8 =>
        rintro w' ⟨hA5, hB5⟩
        skip
        simp only [List.getElem_toArray, List.getElem_cons_zero, List.getElem_cons_succ]
        go_simp
      simp only [List.getElem_toArray, List.getElem_cons_zero, List.getElem_cons_succ, Act.put, List.setIfInBounds_toArray, List.set_cons_zero, List.set_cons_succ]
      refine wpAnyG.take 9 (v := .bool false) (by decide) (by kernel_rfl) (fun _ _ _ h => h) 14 _ (by rfl) (fun _ _ => Iff.rfl) (fun _ _ _ h => h) (by kernel_rfl) (by kernel_rfl) (by kernel_rfl) (by rfl) ?y9 (HBX _ hc3) (by rfl) ?_
      case y9 =>
        rintro w' ⟨hA5, hB5⟩
        skip
        simp only [List.getElem_toArray, List.getElem_cons_zero, List.getElem_cons_succ]
        go_simp
      simp only [List.getElem_toArray, List.getElem_cons_zero, List.getElem_cons_succ, Act.put, List.setIfInBounds_toArray, List.set_cons_zero, List.set_cons_succ]
      refine wpAnyG.take 10 (v := .agg #[.bool P.mx, .string P.nm, .bool P.p, .slice P.a P.na P.ca, .slice P.d P.nd P.cd, .slice P.va P.vn P.vc, .slice P.ra P.rn P.rc]) (by decide) (by kernel_rfl) (fun _ _ _ h => h) 12 _ (by rfl) (fun _ _ => Iff.rfl) (fun _ _ _ h => h) (by kernel_rfl) (by kernel_rfl) (by kernel_rfl) (by rfl) ?y10 (HBX _ hc3) (by rfl) ?_
      case y10 =>
        rintro w' ⟨hA5, hB5⟩
        have qhB50 := hB5 0 _ rfl; have qhB51 := hB5 1 _ rfl; have qhB52 := hB5 2 _ rfl; have qhB53 := hB5 3 _ rfl; have qhB54 := hB5 4 _ rfl; have qhB55 := hB5 5 _ rfl; have qhB56 := hB5 6 _ rfl
        simp only [List.getElem_toArray, List.getElem_cons_zero, List.getElem_cons_succ]
        go_simp
      simp only [List.getElem_toArray, List.getElem_cons_zero, List.getElem_cons_succ, Act.put, List.setIfInBounds_toArray, List.set_cons_zero, List.set_cons_succ]
      refine wpAnyG.take 11 (v := .slice xa q xc) (by decide) (by kernel_rfl) (fun _ _ _ h => h) 12 _ (by rfl) (fun _ _ => Iff.rfl) (fun _ _ _ h => h) (by kernel_rfl) (by kernel_rfl) (by kernel_rfl) (by rfl) ?y11 (HBX _ hc3) (by rfl) ?_
      case y11 =>
        rintro w' ⟨hA5, hB5⟩
        skip
        simp only [List.getElem_toArray, List.getElem_cons_zero, List.getElem_cons_succ]
        go_simp
      simp only [List.getElem_toArray, List.getElem_cons_zero, List.getElem_cons_succ, Act.put, List.setIfInBounds_toArray, List.set_cons_zero, List.set_cons_succ]
      refine wpAnyG.one 12 (by kernel_rfl) (by decide) (by rfl) (fun K hK => ?_)
      simp only [List.getElem_toArray, List.getElem_cons_zero, List.getElem_cons_succ]
      go_simp
      refine (HHX z3 (bel_tr hb5 hc3)).mono ?_
      rintro e z4 ⟨rfl, hk4⟩
      have hc4 : Below u5.heap.size u5 z4 := bel_tr hc3 hk4
      dsimp only
      refine hK _ _ (HBX z4 hc4) ?_
      clear hK K
      refine wpAnyG.take 13 (v := .bool true) (by decide) (by kernel_rfl) (fun _ _ _ h => h) 14 _ (by rfl) (fun _ _ => Iff.rfl) (fun _ _ _ h => h) (by kernel_rfl) (by kernel_rfl) (by kernel_rfl) (by rfl) ?y13 (HBX _ hc4) (by rfl) ?_
      case y13 =>
        rintro w' ⟨hA5, hB5⟩
        skip
        simp only [List.getElem_toArray, List.getElem_cons_zero, List.getElem_cons_succ]
        go_simp
      simp only [List.getElem_toArray, List.getElem_cons_zero, List.getElem_cons_succ, Act.put, List.setIfInBounds_toArray, List.set_cons_zero, List.set_cons_succ]
      refine wpAnyG.take 14 (v := .bool true) (by decide) (by kernel_rfl) (fun _ _ _ h => h) 15 _ (by rfl) (fun _ _ => Iff.rfl) (fun _ _ _ h => h) (by kernel_rfl) (by kernel_rfl) (by kernel_rfl) (by rfl) ?y14 (HBX _ hc4) (by rfl) ?_
      case y14 =>
        rintro w' ⟨hA5, hB5⟩
        skip
        simp only [List.getElem_toArray, List.getElem_cons_zero, List.getElem_cons_succ]
        go_simp
      simp only [List.getElem_toArray, List.getElem_cons_zero, List.getElem_cons_succ, Act.put, List.setIfInBounds_toArray, List.set_cons_zero, List.set_cons_succ]
      refine wpAnyG.take 15 (v := .bool true) (by decide) (by kernel_rfl) (fun _ _ _ h => h) 20 _ (by rfl) (fun _ _ => Iff.rfl) (fun _ _ _ h => h) (by kernel_rfl) (by kernel_rfl) (by kernel_rfl) (by rfl) ?y15 (HBX _ hc4) (by rfl) ?_
      case y15 =>
        rintro w' ⟨hA5, hB5⟩
        skip
        simp only [List.getElem_toArray, List.getElem_cons_zero, List.getElem_cons_succ]
        go_simp
      simp only [List.getElem_toArray, List.getElem_cons_zero, List.getElem_cons_succ, Act.put, List.setIfInBounds_toArray, List.set_cons_zero, List.set_cons_succ]
      refine wpAnyG.skip 16 (by decide) (by kernel_rfl) (fun _ _ _ h => h) 18 (by rfl) (fun _ _ => Iff.rfl) (by kernel_rfl) (by kernel_rfl) (by kernel_rfl) (by rfl) (HBX _ hc4) (by rfl) ?_
      simp only [List.getElem_toArray, List.getElem_cons_zero, List.getElem_cons_succ, Act.put, List.setIfInBounds_toArray, List.set_cons_zero, List.set_cons_succ]
      refine wpAnyG.skip 17 (by decide) (by kernel_rfl) (fun _ _ _ h => h) 18 (by rfl) (fun _ _ => Iff.rfl) (by kernel_rfl) (by kernel_rfl) (by kernel_rfl) (by rfl) (HBX _ hc4) (by rfl) ?_
      simp only [List.getElem_toArray, List.getElem_cons_zero, List.getElem_cons_succ, Act.put, List.setIfInBounds_toArray, List.set_cons_zero, List.set_cons_succ]
      refine wpAnyG.skip 18 (by decide) (by kernel_rfl) (fun _ _ _ h => h) 19 (by rfl) (fun _ _ => Iff.rfl) (by kernel_rfl) (by kernel_rfl) (by kernel_rfl) (by rfl) (HBX _ hc4) (by rfl) ?_
      simp only [List.getElem_toArray, List.getElem_cons_zero, List.getElem_cons_succ, Act.put, List.setIfInBounds_toArray, List.set_cons_zero, List.set_cons_succ]
      refine wpAnyG.skip 19 (by decide) (by kernel_rfl) (fun _ _ _ h => h) 20 (by rfl) (fun _ _ => Iff.rfl) (by kernel_rfl) (by kernel_rfl) (by kernel_rfl) (by rfl) (HBX _ hc4) (by rfl) ?_
      simp only [List.getElem_toArray, List.getElem_cons_zero, List.getElem_cons_succ, Act.put, List.setIfInBounds_toArray, List.set_cons_zero, List.set_cons_succ]
      refine wpAnyG.one 20 (by kernel_rfl) (by decide) (by rfl) (fun K hK => ?_)
      simp only [List.getElem_toArray, List.getElem_cons_zero, List.getElem_cons_succ]
      go_simp
      refine hK _ _ (HBX _ hc4) ?_
      clear hK K
      refine wpAnyG.done (by kernel_rfl) (NoPanic.normal ?_)
      go_wp2
      go_ret
      exact ⟨rfl, bel_tr hb5 hc4⟩
    cases bY
    · clear HHZ
      have HBX : ∀ w', Below u5.heap.size u5 w' → BoxC w' (w.heap.size + 1) [.bool p, .slice a na ca, .slice d nd cd] ∧ BoxC w' w.heap.size [.bool P.mx, .string P.nm, .bool P.p, .slice P.a P.na P.ca, .slice P.d P.nd P.cd, .slice P.va P.vn P.vc, .slice P.ra P.rn P.rc] := fun w' h => ⟨(boxV3 T0).below h, Pb.below h⟩
      refine wp_region_noPanic (wp_region_guard (fun _ w' => BoxC w' (w.heap.size + 1) [.bool p, .slice a na ca, .slice d nd cd] ∧ BoxC w' w.heap.size [.bool P.mx, .string P.nm, .bool P.p, .slice P.a P.na P.ca, .slice P.d P.nd P.cd, .slice P.va P.vn P.vc, .slice P.ra P.rn P.rc]) (by kernel_rfl) ?_)
      have hc0 : Below u5.heap.size u5 u5.drew := bel_d1 _
      generalize u5.drew = z0 at *
      refine wpAnyG.take 0 (v := .agg #[.bool p, .slice a na ca, .slice d nd cd]) (by decide) (by kernel_rfl) (fun _ _ _ h => h) 1 _ (by rfl) (fun _ _ => Iff.rfl) (fun _ _ _ h => h) (by kernel_rfl) (by kernel_rfl) (by kernel_rfl) (by rfl) ?y0 (HBX _ hc0) (by rfl) ?_
      case y0 =>
        rintro w' ⟨hA5, hB5⟩
        have qhA50 := hA5 0 _ rfl; have qhA51 := hA5 1 _ rfl; have qhA52 := hA5 2 _ rfl
        simp only [List.getElem_toArray, List.getElem_cons_zero]
        go_simp
      simp only [List.getElem_toArray, List.getElem_cons_zero, Act.put, List.setIfInBounds_toArray, List.set_cons_zero, List.set_cons_succ]
      refine wpAnyG.one 1 (by kernel_rfl) (by decide) (by rfl) (fun K hK => ?_)
      simp only [List.getElem_toArray, List.getElem_cons_zero, List.getElem_cons_succ]
      go_simp
      refine (rsignB sg z0 (ht.below (bel_tr hb5 hc0)) (by omega) hKt ESG.out).mono ?_
      rintro e z1 ⟨rfl, hk1⟩
      have hc1 : Below u5.heap.size u5 z1 := bel_tr hc0 hk1
      dsimp only
      refine hK _ _ (HBX z1 hc1) ?_
      clear hK K
      refine wpAnyG.take 2 (v := .bool false) (by decide) (by kernel_rfl) (fun _ _ _ h => h) 3 _ (by rfl) (fun _ _ => Iff.rfl) (fun _ _ _ h => h) (by kernel_rfl) (by kernel_rfl) (by kernel_rfl) (by rfl) ?y2 (HBX _ hc1) (by rfl) ?_
      case y2 =>
        rintro w' ⟨hA5, hB5⟩
        skip
        simp only [List.getElem_toArray, List.getElem_cons_zero, List.getElem_cons_succ]
        go_simp
      simp only [List.getElem_toArray, List.getElem_cons_zero, List.getElem_cons_succ, Act.put, List.setIfInBounds_toArray, List.set_cons_zero, List.set_cons_succ]
      refine wpAnyG.take 3 (v := .bool false) (by decide) (by kernel_rfl) (fun _ _ _ h => h) 8 _ (by rfl) (fun _ _ => Iff.rfl) (fun _ _ _ h => h) (by kernel_rfl) (by kernel_rfl) (by kernel_rfl) (by rfl) ?y3 (HBX _ hc1) (by rfl) ?_
      case y3 =>
        rintro w' ⟨hA5, hB5⟩
        skip
        simp only [List.getElem_toArray, List.getElem_cons_zero, List.getElem_cons_succ]
        go_simp
      simp only [List.getElem_toArray, List.getElem_cons_zero, List.getElem_cons_succ, Act.put, List.setIfInBounds_toArray, List.set_cons_zero, List.set_cons_succ]
      refine wpAnyG.take 4 (v := .agg #[.bool p, .slice a na ca, .slice d nd cd]) (by decide) (by kernel_rfl) (fun _ _ _ h => h) 6 _ (by rfl) (fun _ _ => Iff.rfl) (fun _ _ _ h => h) (by kernel_rfl) (by kernel_rfl) (by kernel_rfl) (by rfl) ?y4 (HBX _ hc1) (by rfl) ?_
      case y4 =>
        rintro w' ⟨hA5, hB5⟩
        have qhA50 := hA5 0 _ rfl; have qhA51 := hA5 1 _ rfl; have qhA52 := hA5 2 _ rfl
        simp only [List.getElem_toArray, List.getElem_cons_zero, List.getElem_cons_succ]
        go_simp
      simp only [List.getElem_toArray, List.getElem_cons_zero, List.getElem_cons_succ, Act.put, List.setIfInBounds_toArray, List.set_cons_zero, List.set_cons_succ]
      refine wpAnyG.one 5 (by kernel_rfl) (by decide) (by rfl) (fun K hK => ?_)
      simp only [List.getElem_toArray, List.getElem_cons_zero, List.getElem_cons_succ]
      go_simp
      refine (ofQ 1 z1 (by decide) (by decide)).mono ?_
      rintro e z2 ⟨f2, c2, n2, l2, e2, m2, r2, rfl, G2, hk2⟩
      have hc2 : Below u5.heap.size u5 z2 := bel_tr hc1 hk2
      dsimp only
      refine hK _ _ (HBX z2 hc2) ?_
      clear hK K
      refine wpAnyG.one 6 (by kernel_rfl) (by decide) (by rfl) (fun K hK => ?_)
      simp only [List.getElem_toArray, List.getElem_cons_zero, List.getElem_cons_succ]
      go_simp
      refine (cmpB cm z2 (ht.below (bel_tr hb5 hc2)) G2.tr (by omega) (by omega) (by omega) ECM.out).mono ?_
      rintro e z3 ⟨rfl, hk3⟩
      have hc3 : Below u5.heap.size u5 z3 := bel_tr hc2 hk3
      dsimp only
      refine hK _ _ (HBX z3 hc3) ?_
      clear hK K
      refine wpAnyG.take 7 (v := .bool false) (by decide) (by kernel_rfl) (fun _ _ _ h => h) 8 _ (by rfl) (fun _ _ => Iff.rfl) (fun _ _ _ h => h) (by kernel_rfl) (by kernel_rfl) (by kernel_rfl) (by rfl) ?y7 (HBX _ hc3) (by rfl) ?_
      case y7 =>
        rintro w' ⟨hA5, hB5⟩
        skip
        simp only [List.getElem_toArray, List.getElem_cons_zero, List.getElem_cons_succ]
        go_simp
      simp only [List.getElem_toArray, List.getElem_cons_zero, List.getElem_cons_succ, Act.put, List.setIfInBounds_toArray, List.set_cons_zero, List.set_cons_succ]
      refine wpAnyG.take 8 (v := .bool false) (by decide) (by kernel_rfl) (fun _ _ _ h => h) 9 _ (by rfl) (fun _ _ => Iff.rfl) (fun _ _ _ h => h) (by kernel_rfl) (by kernel_rfl) (by kernel_rfl) (by rfl) ?y8 (HBX _ hc3) (by rfl) ?_
      case y8 =>
        rintro w' ⟨hA5, hB5⟩
        skip
        simp only [List.getElem_toArray, List.getElem_cons_zero, List.getElem_cons_succ]
        go_simp
      simp only [List.getElem_toArray, List.getElem_cons_zero, List.getElem_cons_succ, Act.put, List.setIfInBounds_toArray, List.set_cons_zero, List.set_cons_succ]
      refine wpAnyG.take 9 (v := .bool false) (by decide) (by kernel_rfl) (fun _ _ _ h => h) 14 _ (by rfl) (fun _ _ => Iff.rfl) (fun _ _ _ h => h) (by kernel_rfl) (by kernel_rfl) (by kernel_rfl) (by rfl) ?y9 (HBX _ hc3) (by rfl) ?_
      case y9 =>
        rintro w' ⟨hA5, hB5⟩
        skip
        simp only [List.getElem_toArray, List.getElem_cons_zero, List.getElem_cons_succ]
        go_simp
      simp only [List.getElem_toArray, List.getElem_cons_zero, List.getElem_cons_succ, Act.put, List.setIfInBounds_toArray, List.set_cons_zero, List.set_cons_succ]
      refine wpAnyG.take 10 (v := .agg #[.bool P.mx, .string P.nm, .bool P.p, .slice P.a P.na P.ca, .slice P.d P.nd P.cd, .slice P.va P.vn P.vc, .slice P.ra P.rn P.rc]) (by decide) (by kernel_rfl) (fun _ _ _ h => h) 12 _ (by rfl) (fun _ _ => Iff.rfl) (fun _ _ _ h => h) (by kernel_rfl) (by kernel_rfl) (by kernel_rfl) (by rfl) ?y10 (HBX _ hc3) (by rfl) ?_
      case y10 =>
        rintro w' ⟨hA5, hB5⟩
        have qhB50 := hB5 0 _ rfl; have qhB51 := hB5 1 _ rfl; have qhB52 := hB5 2 _ rfl; have qhB53 := hB5 3 _ rfl; have qhB54 := hB5 4 _ rfl; have qhB55 := hB5 5 _ rfl; have qhB56 := hB5 6 _ rfl
        simp only [List.getElem_toArray, List.getElem_cons_zero, List.getElem_cons_succ]
        go_simp
      simp only [List.getElem_toArray, List.getElem_cons_zero, List.getElem_cons_succ, Act.put, List.setIfInBounds_toArray, List.set_cons_zero, List.set_cons_succ]
      refine wpAnyG.take 11 (v := .slice xa q xc) (by decide) (by kernel_rfl) (fun _ _ _ h => h) 12 _ (by rfl) (fun _ _ => Iff.rfl) (fun _ _ _ h => h) (by kernel_rfl) (by kernel_rfl) (by kernel_rfl) (by rfl) ?y11 (HBX _ hc3) (by rfl) ?_
      case y11 =>
        rintro w' ⟨hA5, hB5⟩
        skip
        simp only [List.getElem_toArray, List.getElem_cons_zero, List.getElem_cons_succ]
        go_simp
      simp only [List.getElem_toArray, List.getElem_cons_zero, List.getElem_cons_succ, Act.put, List.setIfInBounds_toArray, List.set_cons_zero, List.set_cons_succ]
      refine wpAnyG.one 12 (by kernel_rfl) (by decide) (by rfl) (fun K hK => ?_)
      simp only [List.getElem_toArray, List.getElem_cons_zero, List.getElem_cons_succ]
      go_simp
      refine (HHX z3 (bel_tr hb5 hc3)).mono ?_
      rintro e z4 ⟨rfl, hk4⟩
      have hc4 : Below u5.heap.size u5 z4 := bel_tr hc3 hk4
      dsimp only
      refine hK _ _ (HBX z4 hc4) ?_
      clear hK K
      refine wpAnyG.take 13 (v := .bool false) (by decide) (by kernel_rfl) (fun _ _ _ h => h) 14 _ (by rfl) (fun _ _ => Iff.rfl) (fun _ _ _ h => h) (by kernel_rfl) (by kernel_rfl) (by kernel_rfl) (by rfl) ?y13 (HBX _ hc4) (by rfl) ?_
      case y13 =>
        rintro w' ⟨hA5, hB5⟩
        skip
        simp only [List.getElem_toArray, List.getElem_cons_zero, List.getElem_cons_succ]
        go_simp
      simp only [List.getElem_toArray, List.getElem_cons_zero, List.getElem_cons_succ, Act.put, List.setIfInBounds_toArray, List.set_cons_zero, List.set_cons_succ]
      refine wpAnyG.take 14 (v := .bool false) (by decide) (by kernel_rfl) (fun _ _ _ h => h) 15 _ (by rfl) (fun _ _ => Iff.rfl) (fun _ _ _ h => h) (by kernel_rfl) (by kernel_rfl) (by kernel_rfl) (by rfl) ?y14 (HBX _ hc4) (by rfl) ?_
      case y14 =>
        rintro w' ⟨hA5, hB5⟩
        skip
        simp only [List.getElem_toArray, List.getElem_cons_zero, List.getElem_cons_succ]
        go_simp
      simp only [List.getElem_toArray, List.getElem_cons_zero, List.getElem_cons_succ, Act.put, List.setIfInBounds_toArray, List.set_cons_zero, List.set_cons_succ]
      refine wpAnyG.take 15 (v := .bool false) (by decide) (by kernel_rfl) (fun _ _ _ h => h) 20 _ (by rfl) (fun _ _ => Iff.rfl) (fun _ _ _ h => h) (by kernel_rfl) (by kernel_rfl) (by kernel_rfl) (by rfl) ?y15 (HBX _ hc4) (by rfl) ?_
      case y15 =>
        rintro w' ⟨hA5, hB5⟩
        skip
        simp only [List.getElem_toArray, List.getElem_cons_zero, List.getElem_cons_succ]
        go_simp
      simp only [List.getElem_toArray, List.getElem_cons_zero, List.getElem_cons_succ, Act.put, List.setIfInBounds_toArray, List.set_cons_zero, List.set_cons_succ]
      refine wpAnyG.take 16 (v := .agg #[.bool P.mx, .string P.nm, .bool P.p, .slice P.a P.na P.ca, .slice P.d P.nd P.cd, .slice P.va P.vn P.vc, .slice P.ra P.rn P.rc]) (by decide) (by kernel_rfl) (fun _ _ _ h => h) 18 _ (by rfl) (fun _ _ => Iff.rfl) (fun _ _ _ h => h) (by kernel_rfl) (by kernel_rfl) (by kernel_rfl) (by rfl) ?y16 (HBX _ hc4) (by rfl) ?_
      case y16 =>
        rintro w' ⟨hA5, hB5⟩
        have qhB50 := hB5 0 _ rfl; have qhB51 := hB5 1 _ rfl; have qhB52 := hB5 2 _ rfl; have qhB53 := hB5 3 _ rfl; have qhB54 := hB5 4 _ rfl; have qhB55 := hB5 5 _ rfl; have qhB56 := hB5 6 _ rfl
        simp only [List.getElem_toArray, List.getElem_cons_zero, List.getElem_cons_succ]
        go_simp
      simp only [List.getElem_toArray, List.getElem_cons_zero, List.getElem_cons_succ, Act.put, List.setIfInBounds_toArray, List.set_cons_zero, List.set_cons_succ]
      refine wpAnyG.take 17 (v := .slice ya q yc) (by decide) (by kernel_rfl) (fun _ _ _ h => h) 18 _ (by rfl) (fun _ _ => Iff.rfl) (fun _ _ _ h => h) (by kernel_rfl) (by kernel_rfl) (by kernel_rfl) (by rfl) ?y17 (HBX _ hc4) (by rfl) ?_
      case y17 =>
        rintro w' ⟨hA5, hB5⟩
        skip
        simp only [List.getElem_toArray, List.getElem_cons_zero, List.getElem_cons_succ]
        go_simp
      simp only [List.getElem_toArray, List.getElem_cons_zero, List.getElem_cons_succ, Act.put, List.setIfInBounds_toArray, List.set_cons_zero, List.set_cons_succ]
      refine wpAnyG.one 18 (by kernel_rfl) (by decide) (by rfl) (fun K hK => ?_)
      simp only [List.getElem_toArray, List.getElem_cons_zero, List.getElem_cons_succ]
      go_simp
      refine (HHY z4 (bel_tr hb5 hc4)).mono ?_
      rintro e z5 ⟨rfl, hk5⟩
      have hc5 : Below u5.heap.size u5 z5 := bel_tr hc4 hk5
      dsimp only
      refine hK _ _ (HBX z5 hc5) ?_
      clear hK K
      refine wpAnyG.take 19 (v := .bool true) (by decide) (by kernel_rfl) (fun _ _ _ h => h) 20 _ (by rfl) (fun _ _ => Iff.rfl) (fun _ _ _ h => h) (by kernel_rfl) (by kernel_rfl) (by kernel_rfl) (by rfl) ?y19 (HBX _ hc5) (by rfl) ?_
      case y19 =>
        rintro w' ⟨hA5, hB5⟩
        skip
        simp only [List.getElem_toArray, List.getElem_cons_zero, List.getElem_cons_succ]
        go_simp
      simp only [List.getElem_toArray, List.getElem_cons_zero, List.getElem_cons_succ, Act.put, List.setIfInBounds_toArray, List.set_cons_zero, List.set_cons_succ]
      refine wpAnyG.one 20 (by kernel_rfl) (by decide) (by rfl) (fun K hK => ?_)
      simp only [List.getElem_toArray, List.getElem_cons_zero, List.getElem_cons_succ]
      go_simp
      refine hK _ _ (HBX _ hc5) ?_
      clear hK K
      refine wpAnyG.done (by kernel_rfl) (NoPanic.normal ?_)
      go_wp2
      go_ret
      exact ⟨rfl, bel_tr hb5 hc5⟩
    have HZT : Hid (Hlds P q (fun j => btw t (X j) (Y j))) := by
      have ht0 : 0 ≤ t := by
        rw [ESG.out, sign_neg_iff] at hs
        exact Rat.num_nonneg.1 (by omega)
      have ht1 : t ≤ 1 := by
        rw [ECM.out, cs_gt] at hm
        exact Rat.not_lt.1 hm
      exact hlds_btw ht0 ht1 (EBX.out.1 rfl) (EBY.out.1 rfl)
    have HBX : ∀ w', Below u5.heap.size u5 w' → BoxC w' (w.heap.size + 1) [.bool p, .slice a na ca, .slice d nd cd] ∧ BoxC w' w.heap.size [.bool P.mx, .string P.nm, .bool P.p, .slice P.a P.na P.ca, .slice P.d P.nd P.cd, .slice P.va P.vn P.vc, .slice P.ra P.rn P.rc] := fun w' h => ⟨(boxV3 T0).below h, Pb.below h⟩
    refine wp_region_noPanic (wp_region_guard (fun _ w' => BoxC w' (w.heap.size + 1) [.bool p, .slice a na ca, .slice d nd cd] ∧ BoxC w' w.heap.size [.bool P.mx, .string P.nm, .bool P.p, .slice P.a P.na P.ca, .slice P.d P.nd P.cd, .slice P.va P.vn P.vc, .slice P.ra P.rn P.rc]) (by kernel_rfl) ?_)
    have hc0 : Below u5.heap.size u5 u5.drew := bel_d1 _
    generalize u5.drew = z0 at *
    refine wpAnyG.take 0 (v := .agg #[.bool p, .slice a na ca, .slice d nd cd]) (by decide) (by kernel_rfl) (fun _ _ _ h => h) 1 _ (by rfl) (fun _ _ => Iff.rfl) (fun _ _ _ h => h) (by kernel_rfl) (by kernel_rfl) (by kernel_rfl) (by rfl) ?y0 (HBX _ hc0) (by rfl) ?_
    case y0 =>
      rintro w' ⟨hA5, hB5⟩
      have qhA50 := hA5 0 _ rfl; have qhA51 := hA5 1 _ rfl; have qhA52 := hA5 2 _ rfl
      simp only [List.getElem_toArray, List.getElem_cons_zero]
      go_simp
    simp only [List.getElem_toArray, List.getElem_cons_zero, Act.put, List.setIfInBounds_toArray, List.set_cons_zero, List.set_cons_succ]
    refine wpAnyG.one 1 (by kernel_rfl) (by decide) (by rfl) (fun K hK => ?_)
    simp only [List.getElem_toArray, List.getElem_cons_zero, List.getElem_cons_succ]
    go_simp
    refine (rsignB sg z0 (ht.below (bel_tr hb5 hc0)) (by omega) hKt ESG.out).mono ?_
    rintro e z1 ⟨rfl, hk1⟩
    have hc1 : Below u5.heap.size u5 z1 := bel_tr hc0 hk1
    dsimp only
    refine hK _ _ (HBX z1 hc1) ?_
    clear hK K
    refine wpAnyG.take 2 (v := .bool false) (by decide) (by kernel_rfl) (fun _ _ _ h => h) 3 _ (by rfl) (fun _ _ => Iff.rfl) (fun _ _ _ h => h) (by kernel_rfl) (by kernel_rfl) (by kernel_rfl) (by rfl) ?y2 (HBX _ hc1) (by rfl) ?_
    case y2 =>
      rintro w' ⟨hA5, hB5⟩
      skip
      simp only [List.getElem_toArray, List.getElem_cons_zero, List.getElem_cons_succ]
      go_simp
    simp only [List.getElem_toArray, List.getElem_cons_zero, List.getElem_cons_succ, Act.put, List.setIfInBounds_toArray, List.set_cons_zero, List.set_cons_succ]
    refine wpAnyG.take 3 (v := .bool false) (by decide) (by kernel_rfl) (fun _ _ _ h => h) 8 _ (by rfl) (fun _ _ => Iff.rfl) (fun _ _ _ h => h) (by kernel_rfl) (by kernel_rfl) (by kernel_rfl) (by rfl) ?y3 (HBX _ hc1) (by rfl) ?_
    case y3 =>
      rintro w' ⟨hA5, hB5⟩
      skip
      simp only [List.getElem_toArray, List.getElem_cons_zero, List.getElem_cons_succ]
      go_simp
    simp only [List.getElem_toArray, List.getElem_cons_zero, List.getElem_cons_succ, Act.put, List.setIfInBounds_toArray, List.set_cons_zero, List.set_cons_succ]
    refine wpAnyG.take 4 (v := .agg #[.bool p, .slice a na ca, .slice d nd cd]) (by decide) (by kernel_rfl) (fun _ _ _ h => h) 6 _ (by rfl) (fun _ _ => Iff.rfl) (fun _ _ _ h => h) (by kernel_rfl) (by kernel_rfl) (by kernel_rfl) (by rfl) ?y4 (HBX _ hc1) (by rfl) ?_
    case y4 =>
      rintro w' ⟨hA5, hB5⟩
      have qhA50 := hA5 0 _ rfl; have qhA51 := hA5 1 _ rfl; have qhA52 := hA5 2 _ rfl
      simp only [List.getElem_toArray, List.getElem_cons_zero, List.getElem_cons_succ]
      go_simp
    simp only [List.getElem_toArray, List.getElem_cons_zero, List.getElem_cons_succ, Act.put, List.setIfInBounds_toArray, List.set_cons_zero, List.set_cons_succ]
    refine wpAnyG.one 5 (by kernel_rfl) (by decide) (by rfl) (fun K hK => ?_)
    simp only [List.getElem_toArray, List.getElem_cons_zero, List.getElem_cons_succ]
    go_simp
    refine (ofQ 1 z1 (by decide) (by decide)).mono ?_
    rintro e z2 ⟨f2, c2, n2, l2, e2, m2, r2, rfl, G2, hk2⟩
    have hc2 : Below u5.heap.size u5 z2 := bel_tr hc1 hk2
    dsimp only
    refine hK _ _ (HBX z2 hc2) ?_
    clear hK K
    refine wpAnyG.one 6 (by kernel_rfl) (by decide) (by rfl) (fun K hK => ?_)
    simp only [List.getElem_toArray, List.getElem_cons_zero, List.getElem_cons_succ]
    go_simp
    refine (cmpB cm z2 (ht.below (bel_tr hb5 hc2)) G2.tr (by omega) (by omega) (by omega) ECM.out).mono ?_
    rintro e z3 ⟨rfl, hk3⟩
    have hc3 : Below u5.heap.size u5 z3 := bel_tr hc2 hk3
    dsimp only
    refine hK _ _ (HBX z3 hc3) ?_
    clear hK K
    refine wpAnyG.take 7 (v := .bool false) (by decide) (by kernel_rfl) (fun _ _ _ h => h) 8 _ (by rfl) (fun _ _ => Iff.rfl) (fun _ _ _ h => h) (by kernel_rfl) (by kernel_rfl) (by kernel_rfl) (by rfl) ?y7 (HBX _ hc3) (by rfl) ?_
    case y7 =>
      rintro w' ⟨hA5, hB5⟩
      skip
      simp only [List.getElem_toArray, List.getElem_cons_zero, List.getElem_cons_succ]
      go_simp
    simp only [List.getElem_toArray, List.getElem_cons_zero, List.getElem_cons_succ, Act.put, List.setIfInBounds_toArray, List.set_cons_zero, List.set_cons_succ]
    refine wpAnyG.take 8 (v := .bool false) (by decide) (by kernel_rfl) (fun _ _ _ h => h) 9 _ (by rfl) (fun _ _ => Iff.rfl) (fun _ _ _ h => h) (by kernel_rfl) (by kernel_rfl) (by kernel_rfl) (by rfl) ?y8 (HBX _ hc3) (by rfl) ?_
    case y8 =>
      rintro w' ⟨hA5, hB5⟩
      skip
      simp only [List.getElem_toArray, List.getElem_cons_zero, List.getElem_cons_succ]
      go_simp
    simp only [List.getElem_toArray, List.getElem_cons_zero, List.getElem_cons_succ, Act.put, List.setIfInBounds_toArray, List.set_cons_zero, List.set_cons_succ]
    refine wpAnyG.take 9 (v := .bool false) (by decide) (by kernel_rfl) (fun _ _ _ h => h) 14 _ (by rfl) (fun _ _ => Iff.rfl) (fun _ _ _ h => h) (by kernel_rfl) (by kernel_rfl) (by kernel_rfl) (by rfl) ?y9 (HBX _ hc3) (by rfl) ?_
    case y9 =>
      rintro w' ⟨hA5, hB5⟩
      skip
      simp only [List.getElem_toArray, List.getElem_cons_zero, List.getElem_cons_succ]
      go_simp
    simp only [List.getElem_toArray, List.getElem_cons_zero, List.getElem_cons_succ, Act.put, List.setIfInBounds_toArray, List.set_cons_zero, List.set_cons_succ]
    refine wpAnyG.take 10 (v := .agg #[.bool P.mx, .string P.nm, .bool P.p, .slice P.a P.na P.ca, .slice P.d P.nd P.cd, .slice P.va P.vn P.vc, .slice P.ra P.rn P.rc]) (by decide) (by kernel_rfl) (fun _ _ _ h => h) 12 _ (by rfl) (fun _ _ => Iff.rfl) (fun _ _ _ h => h) (by kernel_rfl) (by kernel_rfl) (by kernel_rfl) (by rfl) ?y10 (HBX _ hc3) (by rfl) ?_
    case y10 =>
      rintro w' ⟨hA5, hB5⟩
      have qhB50 := hB5 0 _ rfl; have qhB51 := hB5 1 _ rfl; have qhB52 := hB5 2 _ rfl; have qhB53 := hB5 3 _ rfl; have qhB54 := hB5 4 _ rfl; have qhB55 := hB5 5 _ rfl; have qhB56 := hB5 6 _ rfl
      simp only [List.getElem_toArray, List.getElem_cons_zero, List.getElem_cons_succ]
      go_simp
    simp only [List.getElem_toArray, List.getElem_cons_zero, List.getElem_cons_succ, Act.put, List.setIfInBounds_toArray, List.set_cons_zero, List.set_cons_succ]
    refine wpAnyG.take 11 (v := .slice xa q xc) (by decide) (by kernel_rfl) (fun _ _ _ h => h) 12 _ (by rfl) (fun _ _ => Iff.rfl) (fun _ _ _ h => h) (by kernel_rfl) (by kernel_rfl) (by kernel_rfl) (by rfl) ?y11 (HBX _ hc3) (by rfl) ?_
    case y11 =>
      rintro w' ⟨hA5, hB5⟩
      skip
      simp only [List.getElem_toArray, List.getElem_cons_zero, List.getElem_cons_succ]
      go_simp
    simp only [List.getElem_toArray, List.getElem_cons_zero, List.getElem_cons_succ, Act.put, List.setIfInBounds_toArray, List.set_cons_zero, List.set_cons_succ]
    refine wpAnyG.one 12 (by kernel_rfl) (by decide) (by rfl) (fun K hK => ?_)
    simp only [List.getElem_toArray, List.getElem_cons_zero, List.getElem_cons_succ]
    go_simp
    refine (HHX z3 (bel_tr hb5 hc3)).mono ?_
    rintro e z4 ⟨rfl, hk4⟩
    have hc4 : Below u5.heap.size u5 z4 := bel_tr hc3 hk4
    dsimp only
    refine hK _ _ (HBX z4 hc4) ?_
    clear hK K
    refine wpAnyG.take 13 (v := .bool false) (by decide) (by kernel_rfl) (fun _ _ _ h => h) 14 _ (by rfl) (fun _ _ => Iff.rfl) (fun _ _ _ h => h) (by kernel_rfl) (by kernel_rfl) (by kernel_rfl) (by rfl) ?y13 (HBX _ hc4) (by rfl) ?_
    case y13 =>
      rintro w' ⟨hA5, hB5⟩
      skip
      simp only [List.getElem_toArray, List.getElem_cons_zero, List.getElem_cons_succ]
      go_simp
    simp only [List.getElem_toArray, List.getElem_cons_zero, List.getElem_cons_succ, Act.put, List.setIfInBounds_toArray, List.set_cons_zero, List.set_cons_succ]
    refine wpAnyG.take 14 (v := .bool false) (by decide) (by kernel_rfl) (fun _ _ _ h => h) 15 _ (by rfl) (fun _ _ => Iff.rfl) (fun _ _ _ h => h) (by kernel_rfl) (by kernel_rfl) (by kernel_rfl) (by rfl) ?y14 (HBX _ hc4) (by rfl) ?_
    case y14 =>
      rintro w' ⟨hA5, hB5⟩
      skip
      simp only [List.getElem_toArray, List.getElem_cons_zero, List.getElem_cons_succ]
      go_simp
    simp only [List.getElem_toArray, List.getElem_cons_zero, List.getElem_cons_succ, Act.put, List.setIfInBounds_toArray, List.set_cons_zero, List.set_cons_succ]
    refine wpAnyG.take 15 (v := .bool false) (by decide) (by kernel_rfl) (fun _ _ _ h => h) 20 _ (by rfl) (fun _ _ => Iff.rfl) (fun _ _ _ h => h) (by kernel_rfl) (by kernel_rfl) (by kernel_rfl) (by rfl) ?y15 (HBX _ hc4) (by rfl) ?_
    case y15 =>
      rintro w' ⟨hA5, hB5⟩
      skip
      simp only [List.getElem_toArray, List.getElem_cons_zero, List.getElem_cons_succ]
      go_simp
    simp only [List.getElem_toArray, List.getElem_cons_zero, List.getElem_cons_succ, Act.put, List.setIfInBounds_toArray, List.set_cons_zero, List.set_cons_succ]
    refine wpAnyG.take 16 (v := .agg #[.bool P.mx, .string P.nm, .bool P.p, .slice P.a P.na P.ca, .slice P.d P.nd P.cd, .slice P.va P.vn P.vc, .slice P.ra P.rn P.rc]) (by decide) (by kernel_rfl) (fun _ _ _ h => h) 18 _ (by rfl) (fun _ _ => Iff.rfl) (fun _ _ _ h => h) (by kernel_rfl) (by kernel_rfl) (by kernel_rfl) (by rfl) ?y16 (HBX _ hc4) (by rfl) ?_
    case y16 =>
      rintro w' ⟨hA5, hB5⟩
      have qhB50 := hB5 0 _ rfl; have qhB51 := hB5 1 _ rfl; have qhB52 := hB5 2 _ rfl; have qhB53 := hB5 3 _ rfl; have qhB54 := hB5 4 _ rfl; have qhB55 := hB5 5 _ rfl; have qhB56 := hB5 6 _ rfl
      simp only [List.getElem_toArray, List.getElem_cons_zero, List.getElem_cons_succ]
      go_simp
    simp only [List.getElem_toArray, List.getElem_cons_zero, List.getElem_cons_succ, Act.put, List.setIfInBounds_toArray, List.set_cons_zero, List.set_cons_succ]
    refine wpAnyG.take 17 (v := .slice ya q yc) (by decide) (by kernel_rfl) (fun _ _ _ h => h) 18 _ (by rfl) (fun _ _ => Iff.rfl) (fun _ _ _ h => h) (by kernel_rfl) (by kernel_rfl) (by kernel_rfl) (by rfl) ?y17 (HBX _ hc4) (by rfl) ?_
    case y17 =>
      rintro w' ⟨hA5, hB5⟩
      skip
      simp only [List.getElem_toArray, List.getElem_cons_zero, List.getElem_cons_succ]
      go_simp
    simp only [List.getElem_toArray, List.getElem_cons_zero, List.getElem_cons_succ, Act.put, List.setIfInBounds_toArray, List.set_cons_zero, List.set_cons_succ]
    refine wpAnyG.one 18 (by kernel_rfl) (by decide) (by rfl) (fun K hK => ?_)
    simp only [List.getElem_toArray, List.getElem_cons_zero, List.getElem_cons_succ]
    go_simp
    refine (HHY z4 (bel_tr hb5 hc4)).mono ?_
    rintro e z5 ⟨rfl, hk5⟩
    have hc5 : Below u5.heap.size u5 z5 := bel_tr hc4 hk5
    dsimp only
    refine hK _ _ (HBX z5 hc5) ?_
    clear hK K
    refine wpAnyG.take 19 (v := .bool false) (by decide) (by kernel_rfl) (fun _ _ _ h => h) 20 _ (by rfl) (fun _ _ => Iff.rfl) (fun _ _ _ h => h) (by kernel_rfl) (by kernel_rfl) (by kernel_rfl) (by rfl) ?y19 (HBX _ hc5) (by rfl) ?_
    case y19 =>
      rintro w' ⟨hA5, hB5⟩
      skip
      simp only [List.getElem_toArray, List.getElem_cons_zero, List.getElem_cons_succ]
      go_simp
    simp only [List.getElem_toArray, List.getElem_cons_zero, List.getElem_cons_succ, Act.put, List.setIfInBounds_toArray, List.set_cons_zero, List.set_cons_succ]
    refine wpAnyG.one 20 (by kernel_rfl) (by decide) (by rfl) (fun K hK => ?_)
    simp only [List.getElem_toArray, List.getElem_cons_zero, List.getElem_cons_succ]
    go_simp
    refine hK _ _ (HBX _ hc5) ?_
    clear hK K
    refine wpAnyG.done (by kernel_rfl) (NoPanic.normal ?_)
    have Q := Pb.below hc5
    have q0 := Q 0 _ rfl
    have q1 := Q 1 _ rfl
    have q2 := Q 2 _ rfl
    have q3 := Q 3 _ rfl
    have q4 := Q 4 _ rfl
    have q5 := Q 5 _ rfl
    have q6 := Q 6 _ rfl
    have HF := HHZ z5 (bel_tr hb5 hc5) (bel_tr h2 hc5)
    clear HHZ HBX
    go_wp2_with fail
    refine HF.mono ?_
    rintro e w9 ⟨b, rfl, hb1, hb2⟩
    obtain rfl : b = true := hb1.2 HZT.out
    go_wp2
    go_ret
    exact ⟨rfl, bel_tr hb5 (bel_tr hc5 hb2)⟩
  · have hnI : ¬ ((nx : Int) = (ny : Int)) := by omega
    go_wp2
    go_ret
    exact ⟨rfl, hb⟩
end Go.Proofs.YtimdohckhfmhiaaGreatDoor

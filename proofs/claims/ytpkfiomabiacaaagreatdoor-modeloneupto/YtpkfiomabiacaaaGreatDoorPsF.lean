import Derived.Test.YtpkfiomabiacaaaGreatDoorPsAAll
import Derived.Test.YtpkfiomabiacaaaGreatDoorPsE
import Derived.Test.YtpkfiomabiacaaaGreatDoorPsB
import Derived.Test.YtpkfiomabiacaaaGreatDoorPqGAll
namespace Go.Proofs.YtpkfiomabiacaaaGreatDoor
open Go.RowKit

/-- What a point's value takes. -/
theorem szx {P : Prob} {w : World} (hP : PQ w P) {n Kx : Nat} {X : Nat → Rat} {Zx : Nat → Nat} (hx : ∀ i, i < n → SzR (X i) (Zx i)) (htx : tot Zx n ≤ Kx) (hK : P.K + Kx ≤ 1048576) :
    (∀ q, q ≤ min n P.vn + 1 → SzR (rsum (prt P.k P.V X) q) 2097160) ∧ ∃ D, 0 < D ∧ D < pw Kx ∧ ∀ j, j < n → Ov D (pw (Kx + 1)) (X j) := by
  obtain ⟨Dx, x1, x2, x3⟩ := Fv.list hx htx
  have hall := hP.all
  have hvn : P.vn ≤ 1048576 := by have := tot_len P.ZV P.vn; omega
  have hsv : ∀ j, j < P.vn → SzR (P.V j).obj (P.ZV j) := fun j hj => by
    rcases hP.v with h0 | ⟨b, o, _, h⟩
    · omega
    · exact (h j hj).sobj
  have hm : tot P.ZV (min n P.vn) ≤ tot P.ZV P.vn := tot_mono _ (by omega)
  obtain ⟨D, d1, d2, d3⟩ := val_fv (V := P.V) (ZV := P.ZV) (m := min n P.vn) (K := P.K) hP.sk (fun j hj => hsv j (by omega)) (by omega) (by omega)
  have vx := d3 X Kx (Kx + 1) Dx x1 x2 (fun j hj => x3 j (by omega))
  exact ⟨fun q hq => (vx q hq).sz (by omega) (by omega), Dx, x1, x2, fun j hj => (x3 j hj).ov⟩
theorem Tid.val {P Q : Prob} (h : Tid P Q) : Q.val = .agg #[.bool P.mx, .string P.nm, .bool Q.p, .slice Q.a Q.na Q.ca, .slice Q.d Q.nd Q.cd, .slice Q.va P.vn Q.vc, .slice Q.ra P.rn Q.rc] := by unfold Prob.val; rw [h.mx, h.nm, h.vn, h.rn]
theorem Tid.whl {P Q : Prob} (h : Tid P Q) (n : Nat) (X : Nat → Rat) : Whl Q n X ↔ Whl P n X := by
  unfold Whl
  rw [h.vn]
  refine ⟨fun ⟨a, b⟩ => ⟨a, fun j hj hw => b j hj (by rw [h.V j]; exact hw)⟩, fun ⟨a, b⟩ => ⟨a, fun j hj hw => b j hj (by rw [h.V j] at hw; exact hw)⟩⟩
theorem bool_iff (p : Prop) : ∃ b : Bool, (b = true ↔ p) := by
  by_cases h : p
  · exact ⟨true, fun _ => h, fun _ => rfl⟩
  · exact ⟨false, (fun e => by cases e), fun e => absurd e h⟩
theorem bool_same {b c : Bool} {p : Prop} (h : b = true ↔ p) (k : c = true ↔ p) : b = c := by
  have h3 : b = true ↔ c = true := h.trans k.symm
  revert h3; cases b <;> cases c <;> simp
set_option maxRecDepth 100000 in
set_option maxHeartbeats 16000000 in
theorem one_walk (P : Prob) {xa : Option Addr} {nx xc : Nat} {X : Nat → Rat} {Zx : Nat → Nat} {Kx : Nat} (w : World) (hP : PQ w P) (hx : LQ w xa nx X Zx) (hzx : ∀ i, i < nx → 1 ≤ Zx i ∧ SzR (X i) (Zx i)) (htx : tot Zx nx ≤ Kx) (hxc : nx ≤ xc) (hK : P.K + Kx ≤ 1048576) (hT : TB w)
    (HA : ∀ w1, Below w.heap.size w w1 → Calls Tryz.prog 7 #[] w1 fun e w' => e = .returned (.bool true) ∧ Below w1.heap.size w1 w') :
    Calls Tryz.prog 5 #[P.val, .slice xa nx xc] w fun e w' => e = .returned (.bool true) ∧ Below w.heap.size w w' := by
  obtain ⟨VX, Dx, dx1, dx2, dx3⟩ := szx hP (fun i hi => (hzx i hi).2) htx hK
  have hZx : ∀ j, j < nx → Zx j ≤ Kx := fun j hj => by have := tot_le (Z := Zx) hj; omega
  have hKK : P.K ≤ 1048576 := by omega
  have hvn : P.vn ≤ 1048576 := by have := hP.all; have := tot_len P.ZV P.vn; omega
  have hrn : P.rn ≤ 1048576 := by have := hP.all; have := tot_len P.ZR P.rn; omega
  have hPS : P.S ≤ 1048576 := by have := hP.all; omega
  have hZV : ∀ j, j < min nx P.vn → P.ZV j ≤ 1048576 := fun j hj => by have := tot_le (Z := P.ZV) (show j < P.vn by omega); have := hP.all; omega
  have hZR : ∀ i, i < P.rn → P.ZR i ≤ P.K := fun i hi => by have := tot_le (Z := P.ZR) hi; have := hP.all; omega
  obtain ⟨bx, ebx⟩ := bool_iff (Hlds P nx X)
  obtain ⟨bw, ebw⟩ := bool_iff (Whl P nx X)
  have HVP : ∀ w1, Below w.heap.size w w1 → _ := fun w1 hb => valueQ P (T := 2097160) (S := 3145736) (m := min nx P.vn) w1 (hP.below hb) (hx.below hb) hxc rfl (by omega) (fun j hj => ⟨(hzx j (by omega)).1, by have := hZV j hj; have := hZx j (by omega); omega⟩) (by omega) (by omega) VX (by omega) (hT.below hb)
  have HSP : ∀ w1, Below w.heap.size w w1 → _ := fun w1 hb => sumsQ P (T := 2097160) (S := 3145736) (m := min nx P.vn) (dx := Kx) (ax := Kx + 2) w1 (hP.below hb) (hx.below hb) hxc rfl (fun i j hi hj => ⟨(hzx j (by omega)).1, by have := hZR i hi; have := hZx j (by omega); omega⟩) (by omega) (by omega) dx1 dx2 (Int.le_of_lt (pw_pos _)) (pw_lt1 _) (fun j hj => dx3 j (by omega)) (fun i hi => by have := hZR i hi; omega) (by omega) hKK (hT.below hb)
  have HHP : ∀ w1, Below w.heap.size w w1 → Calls Tryz.prog 21 #[P.val, .slice xa nx xc] w1 fun e w' => e = .returned (.bool bx) ∧ Below w1.heap.size w1 w' := fun w1 hb =>
    (holdsQ P (T := 2097160) (S := 3145736) (dx := Kx) (ax := Kx + 2) w1 (hP.below hb) (hx.below hb) hxc (fun j hj => ⟨(hzx j (by omega)).1, by have := hZx j (by omega); omega⟩) (fun i j hi hj => ⟨(hzx j (by omega)).1, by have := hZR i hi; have := hZx j (by omega); omega⟩) (by omega) (by omega) dx1 dx2 (Int.le_of_lt (pw_pos _)) (pw_lt1 _) (fun j hj => dx3 j (by omega)) (fun i hi => by have := hZR i hi; omega) (by omega) hKK (hT.below hb)).mono (by
      rintro e w' ⟨b, rfl, hb1, hb2⟩
      obtain rfl := bool_same hb1 ebx
      exact ⟨rfl, hb2⟩)
  have HWP : ∀ w1, Below w.heap.size w w1 → Calls Tryz.prog 22 #[P.val, .slice xa nx xc] w1 fun e w' => e = .returned (.bool bw) ∧ Below w1.heap.size w1 w' := fun w1 hb =>
    (wholeQ P w1 (hP.below hb) (hx.below hb) (fun j hj => ⟨(hzx j (by omega)).1, by have := hZx j (by omega); omega⟩) hKK).mono (by
      rintro e w' ⟨b, rfl, hb1, hb2⟩
      obtain rfl := bool_same hb1 ebw
      exact ⟨rfl, hb2⟩)
  have Pb := box_new w #[.bool P.mx, .string P.nm, .bool P.p, .slice P.a P.na P.ca, .slice P.d P.nd P.cd, .slice P.va P.vn P.vc, .slice P.ra P.rn P.rc] 31
  have hb := bel_d0 w (.cells #[.bool P.mx, .string P.nm, .bool P.p, .slice P.a P.na P.ca, .slice P.d P.nd P.cd, .slice P.va P.vn P.vc, .slice P.ra P.rn P.rc] 31)
  unfold Prob.val
  go_enter Tryz.func5, Tryz.ntmps5
  go_wp2_with fail
  generalize w.alloc (.cells #[.bool P.mx, .string P.nm, .bool P.p, .slice P.a P.na P.ca, .slice P.d P.nd P.cd, .slice P.va P.vn P.vc, .slice P.ra P.rn P.rc] 31) = W at *
  refine (HA W hb).mono ?_
  rintro e w1 ⟨rfl, h1⟩
  replace Pb := Pb.below h1
  replace hb := bel_tr hb h1
  clear h1 HA
  have HT1 := tidyQ P w1 (hP.below hb) hKK (hT.below hb)
  have p0 := Pb 0 _ rfl
  have p1 := Pb 1 _ rfl
  have p2 := Pb 2 _ rfl
  have p3 := Pb 3 _ rfl
  have p4 := Pb 4 _ rfl
  have p5 := Pb 5 _ rfl
  have p6 := Pb 6 _ rfl
  go_wp2_with fail
  refine HT1.mono ?_
  clear HT1 p0 p1 p2 p3 p4 p5 p6
  rintro e w2 ⟨v, rfl, hTO, h1⟩
  obtain ⟨Q, rfl, hQ, hTid, hC⟩ := hTO.prob hP hKK
  replace Pb := Pb.below h1
  replace hb := bel_tr hb h1
  clear h1 hTO
  rw [hTid.val]
  have Qb := box_new w2 #[.bool P.mx, .string P.nm, .bool Q.p, .slice Q.a Q.na Q.ca, .slice Q.d Q.nd Q.cd, .slice Q.va P.vn Q.vc, .slice Q.ra P.rn Q.rc] 31
  have x1 := bel_d0 w2 (.cells #[.bool P.mx, .string P.nm, .bool Q.p, .slice Q.a Q.na Q.ca, .slice Q.d Q.nd Q.cd, .slice Q.va P.vn Q.vc, .slice Q.ra P.rn Q.rc] 31)
  obtain ⟨RQ, hRQ⟩ : ∃ RQ, RQ = w2.heap.size := ⟨_, rfl⟩
  rw [← hRQ] at Qb
  replace Pb := Pb.below x1
  replace hb := bel_tr hb x1
  replace hQ := hQ.below x1
  replace hC := hC.below x1
  have q0 := Qb 0 _ rfl
  have q1 := Qb 1 _ rfl
  have q2 := Qb 2 _ rfl
  have q3 := Qb 3 _ rfl
  have q4 := Qb 4 _ rfl
  have q5 := Qb 5 _ rfl
  have q6 := Qb 6 _ rfl
  have hQK : Q.K ≤ 1048576 := by rw [hTid.K]; exact hKK
  have HT2 := tidyQ Q (w2.alloc (.cells #[.bool P.mx, .string P.nm, .bool Q.p, .slice Q.a Q.na Q.ca, .slice Q.d Q.nd Q.cd, .slice Q.va P.vn Q.vc, .slice Q.ra P.rn Q.rc] 31)) hQ hQK (hT.below hb)
  rw [hTid.val] at HT2
  rw [hRQ] at q0 q1 q2 q3 q4 q5 q6
  go_wp2_with fail
  rw [← hRQ]
  generalize w2.alloc (.cells #[.bool P.mx, .string P.nm, .bool Q.p, .slice Q.a Q.na Q.ca, .slice Q.d Q.nd Q.cd, .slice Q.va P.vn Q.vc, .slice Q.ra P.rn Q.rc] 31) = W2 at *
  refine HT2.mono ?_
  clear HT2 q0 q1 q2 q3 q4 q5 q6 x1 hRQ
  rintro e w3 ⟨v, rfl, hTO, h1⟩
  obtain ⟨R, rfl, hR, hTid2, hC2⟩ := hTO.prob hQ hQK
  replace Pb := Pb.below h1
  replace Qb := Qb.below h1
  replace hb := bel_tr hb h1
  replace hQ := hQ.below h1
  replace hC := hC.below h1
  clear h1 hTO hR
  have eR : R.val = .agg #[.bool P.mx, .string P.nm, .bool R.p, .slice R.a R.na R.ca, .slice R.d R.nd R.cd, .slice R.va P.vn R.vc, .slice R.ra P.rn R.rc] := by unfold Prob.val; rw [hTid2.mx, hTid2.nm, hTid2.vn, hTid2.rn, hTid.mx, hTid.nm, hTid.vn, hTid.rn]
  rw [eR]
  have Rb := box_new w3 #[.bool P.mx, .string P.nm, .bool R.p, .slice R.a R.na R.ca, .slice R.d R.nd R.cd, .slice R.va P.vn R.vc, .slice R.ra P.rn R.rc] 31
  have x1 := bel_d0 w3 (.cells #[.bool P.mx, .string P.nm, .bool R.p, .slice R.a R.na R.ca, .slice R.d R.nd R.cd, .slice R.va P.vn R.vc, .slice R.ra P.rn R.rc] 31)
  replace Pb := Pb.below x1
  replace Qb := Qb.below x1
  replace hb := bel_tr hb x1
  replace hQ := hQ.below x1
  have HS := sameQ7 Q R (w3.alloc (.cells #[.bool P.mx, .string P.nm, .bool R.p, .slice R.a R.na R.ca, .slice R.d R.nd R.cd, .slice R.va P.vn R.vc, .slice R.ra P.rn R.rc] 31)) ((hC.below x1).sam hTid (hC2.below x1) hTid2 hP hKK)
  rw [hTid.val, eR] at HS
  have q0 := Qb 0 _ rfl
  have q1 := Qb 1 _ rfl
  have q2 := Qb 2 _ rfl
  have q3 := Qb 3 _ rfl
  have q4 := Qb 4 _ rfl
  have q5 := Qb 5 _ rfl
  have q6 := Qb 6 _ rfl
  have r0 := Rb 0 _ rfl
  have r1 := Rb 1 _ rfl
  have r2 := Rb 2 _ rfl
  have r3 := Rb 3 _ rfl
  have r4 := Rb 4 _ rfl
  have r5 := Rb 5 _ rfl
  have r6 := Rb 6 _ rfl
  go_wp2_with fail
  generalize w3.alloc (.cells #[.bool P.mx, .string P.nm, .bool R.p, .slice R.a R.na R.ca, .slice R.d R.nd R.cd, .slice R.va P.vn R.vc, .slice R.ra P.rn R.rc] 31) = W3 at *
  refine HS.mono ?_
  clear HS q0 q1 q2 q3 q4 q5 q6 r0 r1 r2 r3 r4 r5 r6 x1 Rb eR hC hC2 hTid2
  rintro e w4 ⟨rfl, h1⟩
  replace Pb := Pb.below h1
  replace Qb := Qb.below h1
  replace hb := bel_tr hb h1
  replace hQ := hQ.below h1
  clear h1
  have p5 := Pb 5 _ rfl
  have p6 := Pb 6 _ rfl
  have q5 := Qb 5 _ rfl
  have q6 := Qb 6 _ rfl
  go_wp2
  clear p5 p6 q5 q6
  have hQr := hQ.r
  rw [hTid.rn] at hQr
  go_loopw [9] (fun s9 wr => ∃ (i : Nat), i ≤ P.rn ∧ s9 = .int .i64 i ∧ Below w4.heap.size w4 wr) (fun s9 _ => P.rn - (intOf s9).toNat)
  case atStart => exact ⟨0, Nat.zero_le _, rfl, Below.refl _ _⟩
  case round =>
    obtain ⟨i, hi, rfl, hbr⟩ := hrel
    have q6 := (Qb.below hbr) 6 _ rfl
    by_cases hlt : i < P.rn
    · have hkI : (i : Int) < (P.rn : Int) := by omega
      rcases hQr with h0 | ⟨rb, ro, hra, hew⟩
      · omega
      have G := (hTid.R i hlt).2.2.2.2.2
      have hRow := hew i hlt
      obtain ⟨ta, tc, Zt, rt, hLT, htt, _⟩ := hRow.terms
      have hZi : Q.ZR i ≤ 1048576 := by have := hZR i hlt; rw [hTid.ZR]; omega
      obtain ⟨nt, ent⟩ : ∃ nt, nt = (Q.R i).nt := ⟨_, rfl⟩
      obtain ⟨tt, ett⟩ : ∃ tt, tt = (Q.R i).t := ⟨_, rfl⟩
      rw [← ent, ← ett] at hLT G
      rw [← ent] at rt htt
      have hnt : nt ≤ 1048576 := by have := tot_len Zt nt; omega
      have hZt : ∀ k, k < nt → Zt k ≤ 1048576 := fun k hk => by have := tot_le (Z := Zt) hk; omega
      have hkI2 : (i : Int) * 10 = ((i * 10 : Nat) : Int) := by omega
      rw [hra] at q6
      clear hra hew hRow ent ett htt
      have q6' := q6
      have rt' := kept_c hbr rt
      go_wp2
      generalize wr = wA at *
      go_loopw [10, 11] (fun s10 s11 wr => ∃ (k : Nat) (la : Int), k ≤ nt ∧ s11 = .int .i64 k ∧ s10 = .int .i64 la ∧ (∀ j, j < nt → k ≤ j → la < (tt j).var) ∧ Below wA.heap.size wA wr) (fun _ s11 _ => nt - (intOf s11).toNat)
      case atStart => exact ⟨0, -1, Nat.zero_le _, rfl, rfl, fun j hj _ => by have := (G.lt j hj).1; omega, Below.refl _ _⟩
      case round =>
        obtain ⟨k, la, hk, rfl, rfl, hla, hbk⟩ := hrel
        replace q6 := kept_c hbk q6'
        replace rt := kept_c hbk rt'
        have hbrk := bel_tr hbr hbk
        by_cases hlt2 : k < nt
        · have hkI3 : (k : Int) < (nt : Int) := by omega
          rcases hLT with h0 | ⟨tb, to, rfl, het⟩
          · omega
          obtain ⟨t0, ⟨pA, aA, nA, cA, dA, mA, lA, t1, t2, t3, hA⟩, hs1, _, _, _⟩ := (het k hlt2).below hbrk
          have hkI4 : (k : Int) * 4 = ((k * 4 : Nat) : Int) := by omega
          have hZk := hZt k hlt2
          have hco := (G.co k hlt2)
          have hl1 := (G.lt k hlt2).2
          have hl2 := hla k hlt2 (Nat.le_refl _)
          have hla' : ∀ j, j < nt → k + 1 ≤ j → (tt k).var < (tt j).var := fun j hj hkj => G.up k j (by omega) hj
          obtain ⟨vk, evk⟩ : ∃ vk, vk = (tt k).var := ⟨_, rfl⟩
          rw [← evk] at hl1 hl2 hla' t0
          have hcz : (tt k).coef ≠ 0 := by rw [hco.1]; exact hco.2
          obtain ⟨sg, esg⟩ : ∃ sg, sg = (tt k).coef.num.sign := ⟨_, rfl⟩
          have hsg : ¬ sg = 0 := by
            intro h
            rw [esg, Int.sign_eq_zero_iff_zero] at h
            exact hcz (Rat.num_eq_zero.1 h)
          have hsgb : (sg == 0) = false := by simpa using hsg
          have ESG : Hid (sg = (tt k).coef.num.sign) := esg
          have q5 := (Qb.below hbrk) 5 _ rfl
          have hl1' : ¬ ((P.vn : Int) ≤ vk) := by omega
          have hl2' : ¬ (vk ≤ la) := by omega
          have HSG := fun w' (h : Below wr.heap.size wr w') => rsignB sg w' (hA.below h) (by omega) hs1 ESG.out
          have hz := bel_d0 wr (.cells #[.int .i64 vk, .bool pA, .slice aA nA cA, .slice dA mA lA] 57)
          replace hbk := bel_tr hbk hz
          have n0 := box_new wr #[.int .i64 vk, .bool pA, .slice aA nA cA, .slice dA mA lA] 57 0 _ rfl
          have q5' := kept_c hz q5
          clear evk esg hco hcz hA het hla
          go_wp2_with fail
          generalize wr.alloc (.cells #[.int .i64 vk, .bool pA, .slice aA nA cA, .slice dA mA lA] 57) = W5 at *
          refine (HSG W5 hz).mono ?_
          rintro e w5 ⟨rfl, h5⟩
          replace hbk := bel_tr hbk h5
          replace n0 := kept_c h5 n0
          go_wp2
          go_roundw
          case rel => first | exact ⟨k + 1, vk, by omega, by go_num, rfl, hla', hbk⟩ | ((repeat apply Exists.intro); refine ⟨?_, rfl⟩; exact ⟨k + 1, vk, by omega, by go_num, rfl, hla', hbk⟩)
          case measure => simp [intOf]; omega
        · have hkI3 : ¬ (k : Int) < (nt : Int) := by omega
          go_wp2
          go_roundw
          case rel => first | exact ⟨i + 1, by omega, by go_num, hbrk⟩ | ((repeat apply Exists.intro); refine ⟨?_, rfl⟩; exact ⟨i + 1, by omega, by go_num, hbrk⟩)
          case measure => simp [intOf]; omega
    · have hkI : ¬ (i : Int) < (P.rn : Int) := by omega
      replace Pb := Pb.below hbr
      replace Qb := Qb.below hbr
      replace hb := bel_tr hb hbr
      replace hQ := hQ.below hbr
      clear hbr hQr hlt hi
      have HVQ : ∀ w1, Below wr.heap.size wr w1 → Calls Tryz.prog 10 #[.agg #[.bool P.mx, .string P.nm, .bool Q.p, .slice Q.a Q.na Q.ca, .slice Q.d Q.nd Q.cd, .slice Q.va P.vn Q.vc, .slice Q.ra P.rn Q.rc], .slice xa nx xc] w1 fun e w' => ∃ f c n1 k1 c' n' k', e = .returned (.agg #[.bool f, .slice c n1 k1, .slice c' n' k']) ∧ GR w' w1.heap.size f c n1 k1 c' n' k' (rsum (prt P.k P.V X) (min nx P.vn + 1)) 2097160 ∧ Below w1.heap.size w1 w' := fun w1 h1 => by
        have hq := valueQ Q (T := 2097160) (S := 3145736) (m := min nx P.vn) w1 (hQ.below h1) (hx.below (bel_tr hb h1)) hxc (by rw [hTid.vn]) (by rw [hTid.S]; omega) (fun j hj => ⟨(hzx j (by omega)).1, by have := hZV j hj; have := hZx j (by omega); rw [hTid.ZV]; omega⟩) (by omega) (by omega) (fun j hj => by rw [hTid.value]; exact VX j hj) (by omega) (hT.below (bel_tr hb h1))
        rw [hTid.value, hTid.val] at hq
        exact hq
      have HSQ : ∀ w1, Below wr.heap.size wr w1 → Calls Tryz.prog 12 #[.agg #[.bool P.mx, .string P.nm, .bool Q.p, .slice Q.a Q.na Q.ca, .slice Q.d Q.nd Q.cd, .slice Q.va P.vn Q.vc, .slice Q.ra P.rn Q.rc], .slice xa nx xc] w1 fun e w' => ∃ a cap, e = .returned (.slice a P.rn cap) ∧ RL w' w1.heap.size (.slice a P.rn cap) P.rn (fun i => cv (P.R i) X (min nx P.vn)) 2097160 ∧ Below w1.heap.size w1 w' := fun w1 h1 => by
        have hq := sumsQ Q (T := 2097160) (S := 3145736) (m := min nx P.vn) (dx := Kx) (ax := Kx + 2) w1 (hQ.below h1) (hx.below (bel_tr hb h1)) hxc (by rw [hTid.vn]) (fun i j hi hj => ⟨(hzx j (by omega)).1, by rw [hTid.rn] at hi; have := hZR i hi; have := hZx j (by omega); rw [hTid.ZR]; omega⟩) (by omega) (by omega) dx1 dx2 (Int.le_of_lt (pw_pos _)) (pw_lt1 _) (fun j hj => dx3 j (by omega)) (fun i hi => by rw [hTid.rn] at hi; have := hZR i hi; rw [hTid.ZR]; omega) (by omega) (by rw [hTid.K]; exact hKK) (hT.below (bel_tr hb h1))
        rw [hTid.rn, hTid.val] at hq
        refine hq.mono ?_
        rintro e w' ⟨a, cap, rfl, L, h2⟩
        exact ⟨a, cap, rfl, L.congr (fun i hi => (hTid.R i hi).2.2.2.2.2.cvs X (by omega)), h2⟩
      have HHQ : ∀ w1, Below wr.heap.size wr w1 → Calls Tryz.prog 21 #[.agg #[.bool P.mx, .string P.nm, .bool Q.p, .slice Q.a Q.na Q.ca, .slice Q.d Q.nd Q.cd, .slice Q.va P.vn Q.vc, .slice Q.ra P.rn Q.rc], .slice xa nx xc] w1 fun e w' => e = .returned (.bool bx) ∧ Below w1.heap.size w1 w' := fun w1 h1 => by
        have hq := holdsQ Q (T := 2097160) (S := 3145736) (dx := Kx) (ax := Kx + 2) w1 (hQ.below h1) (hx.below (bel_tr hb h1)) hxc (fun j hj => ⟨(hzx j (by omega)).1, by have := hZx j (by omega); omega⟩) (fun i j hi hj => ⟨(hzx j (by omega)).1, by rw [hTid.rn] at hi; have := hZR i hi; have := hZx j (by omega); rw [hTid.ZR]; omega⟩) (by omega) (by omega) dx1 dx2 (Int.le_of_lt (pw_pos _)) (pw_lt1 _) (fun j hj => dx3 j (by omega)) (fun i hi => by rw [hTid.rn] at hi; have := hZR i hi; rw [hTid.ZR]; omega) (by omega) (by rw [hTid.K]; exact hKK) (hT.below (bel_tr hb h1))
        rw [hTid.val] at hq
        refine hq.mono ?_
        rintro e w' ⟨b, rfl, hb1, hb2⟩
        obtain rfl := bool_same hb1 (ebx.trans (hTid.hlds nx X).symm)
        exact ⟨rfl, hb2⟩
      have HWQ : ∀ w1, Below wr.heap.size wr w1 → Calls Tryz.prog 22 #[.agg #[.bool P.mx, .string P.nm, .bool Q.p, .slice Q.a Q.na Q.ca, .slice Q.d Q.nd Q.cd, .slice Q.va P.vn Q.vc, .slice Q.ra P.rn Q.rc], .slice xa nx xc] w1 fun e w' => e = .returned (.bool bw) ∧ Below w1.heap.size w1 w' := fun w1 h1 => by
        have hq := wholeQ (xc := xc) Q w1 (hQ.below h1) (hx.below (bel_tr hb h1)) (fun j hj => ⟨(hzx j (by omega)).1, by have := hZx j (by omega); omega⟩) (by rw [hTid.K]; exact hKK)
        rw [hTid.val] at hq
        refine hq.mono ?_
        rintro e w' ⟨b, rfl, hb1, hb2⟩
        obtain rfl := bool_same hb1 (ebw.trans (hTid.whl nx X).symm)
        exact ⟨rfl, hb2⟩
      have q6' := q6
      clear hQ VX hzx dx1 dx2 dx3 hZV hZR hZx ebx ebw hTid
      unfold Prob.val at *
      go_wp2_with fail
      clear q6 q6'
      have HBX : ∀ w', Below wr.heap.size wr w' → (w'.cell? ⟨w.heap.size, 0, none⟩ = some (.bool P.mx) ∧ w'.cell? ⟨w.heap.size, 1, none⟩ = some (.string P.nm) ∧ w'.cell? ⟨w.heap.size, 2, none⟩ = some (.bool P.p) ∧ w'.cell? ⟨w.heap.size, 3, none⟩ = some (.slice P.a P.na P.ca) ∧ w'.cell? ⟨w.heap.size, 4, none⟩ = some (.slice P.d P.nd P.cd) ∧ w'.cell? ⟨w.heap.size, 5, none⟩ = some (.slice P.va P.vn P.vc) ∧ w'.cell? ⟨w.heap.size, 6, none⟩ = some (.slice P.ra P.rn P.rc) ∧ w'.cell? ⟨RQ, 0, none⟩ = some (.bool P.mx) ∧ w'.cell? ⟨RQ, 1, none⟩ = some (.string P.nm) ∧ w'.cell? ⟨RQ, 2, none⟩ = some (.bool Q.p) ∧ w'.cell? ⟨RQ, 3, none⟩ = some (.slice Q.a Q.na Q.ca) ∧ w'.cell? ⟨RQ, 4, none⟩ = some (.slice Q.d Q.nd Q.cd) ∧ w'.cell? ⟨RQ, 5, none⟩ = some (.slice Q.va P.vn Q.vc) ∧ w'.cell? ⟨RQ, 6, none⟩ = some (.slice Q.ra P.rn Q.rc)) := fun w' h => ⟨Pb.below h 0 _ rfl, Pb.below h 1 _ rfl, Pb.below h 2 _ rfl, Pb.below h 3 _ rfl, Pb.below h 4 _ rfl, Pb.below h 5 _ rfl, Pb.below h 6 _ rfl, Qb.below h 0 _ rfl, Qb.below h 1 _ rfl, Qb.below h 2 _ rfl, Qb.below h 3 _ rfl, Qb.below h 4 _ rfl, Qb.below h 5 _ rfl, Qb.below h 6 _ rfl⟩
      refine wp_region_noPanic (wp_region_guard (fun _ w' => w'.cell? ⟨w.heap.size, 0, none⟩ = some (.bool P.mx) ∧ w'.cell? ⟨w.heap.size, 1, none⟩ = some (.string P.nm) ∧ w'.cell? ⟨w.heap.size, 2, none⟩ = some (.bool P.p) ∧ w'.cell? ⟨w.heap.size, 3, none⟩ = some (.slice P.a P.na P.ca) ∧ w'.cell? ⟨w.heap.size, 4, none⟩ = some (.slice P.d P.nd P.cd) ∧ w'.cell? ⟨w.heap.size, 5, none⟩ = some (.slice P.va P.vn P.vc) ∧ w'.cell? ⟨w.heap.size, 6, none⟩ = some (.slice P.ra P.rn P.rc) ∧ w'.cell? ⟨RQ, 0, none⟩ = some (.bool P.mx) ∧ w'.cell? ⟨RQ, 1, none⟩ = some (.string P.nm) ∧ w'.cell? ⟨RQ, 2, none⟩ = some (.bool Q.p) ∧ w'.cell? ⟨RQ, 3, none⟩ = some (.slice Q.a Q.na Q.ca) ∧ w'.cell? ⟨RQ, 4, none⟩ = some (.slice Q.d Q.nd Q.cd) ∧ w'.cell? ⟨RQ, 5, none⟩ = some (.slice Q.va P.vn Q.vc) ∧ w'.cell? ⟨RQ, 6, none⟩ = some (.slice Q.ra P.rn Q.rc)) (by as_aux_lemma => kernel_rfl) ?_)
      have hc0 : Below wr.heap.size wr wr.drew := bel_d1 _
      generalize wr.drew = z0 at *
      refine wpAnyG.take 0 (v := .agg #[.bool P.mx, .string P.nm, .bool P.p, .slice P.a P.na P.ca, .slice P.d P.nd P.cd, .slice P.va P.vn P.vc, .slice P.ra P.rn P.rc]) (by decide) (by as_aux_lemma => kernel_rfl) (fun _ _ _ h => h) 2 _ (by rfl) (fun _ _ => Iff.rfl) (fun _ _ _ h => h) (by as_aux_lemma => kernel_rfl) (by as_aux_lemma => kernel_rfl) (by as_aux_lemma => kernel_rfl) (by rfl) ?y0 (HBX _ hc0) (by rfl) ?_
      case y0 =>
        rintro w' ⟨f0, f1, f2, f3, f4, f5, f6, f7, f8, f9, f10, f11, f12, f13⟩
        simp only [List.getElem_toArray, List.getElem_cons_zero]
        go_simp
      simp only [List.getElem_toArray, List.getElem_cons_zero, Act.put, List.setIfInBounds_toArray, List.set_cons_zero, List.set_cons_succ]
      refine wpAnyG.take 1 (v := .slice xa nx xc) (by decide) (by as_aux_lemma => kernel_rfl) (fun _ _ _ h => h) 2 _ (by rfl) (fun _ _ => Iff.rfl) (fun _ _ _ h => h) (by as_aux_lemma => kernel_rfl) (by as_aux_lemma => kernel_rfl) (by as_aux_lemma => kernel_rfl) (by rfl) ?y1 (HBX _ hc0) (by rfl) ?_
      case y1 =>
        rintro w' ⟨f0, f1, f2, f3, f4, f5, f6, f7, f8, f9, f10, f11, f12, f13⟩
        simp only [List.getElem_toArray, List.getElem_cons_zero, List.getElem_cons_succ]
        go_simp
      simp only [List.getElem_toArray, List.getElem_cons_zero, List.getElem_cons_succ, Act.put, List.setIfInBounds_toArray, List.set_cons_zero, List.set_cons_succ]
      refine wpAnyG.take 3 (v := .agg #[.bool P.mx, .string P.nm, .bool Q.p, .slice Q.a Q.na Q.ca, .slice Q.d Q.nd Q.cd, .slice Q.va P.vn Q.vc, .slice Q.ra P.rn Q.rc]) (by decide) (by as_aux_lemma => kernel_rfl) (fun _ _ _ h => h) 5 _ (by rfl) (fun _ _ => Iff.rfl) (fun _ _ _ h => h) (by as_aux_lemma => kernel_rfl) (by as_aux_lemma => kernel_rfl) (by as_aux_lemma => kernel_rfl) (by rfl) ?y3 (HBX _ hc0) (by rfl) ?_
      case y3 =>
        rintro w' ⟨f0, f1, f2, f3, f4, f5, f6, f7, f8, f9, f10, f11, f12, f13⟩
        simp only [List.getElem_toArray, List.getElem_cons_zero, List.getElem_cons_succ]
        go_simp
      simp only [List.getElem_toArray, List.getElem_cons_zero, List.getElem_cons_succ, Act.put, List.setIfInBounds_toArray, List.set_cons_zero, List.set_cons_succ]
      refine wpAnyG.take 4 (v := .slice xa nx xc) (by decide) (by as_aux_lemma => kernel_rfl) (fun _ _ _ h => h) 5 _ (by rfl) (fun _ _ => Iff.rfl) (fun _ _ _ h => h) (by as_aux_lemma => kernel_rfl) (by as_aux_lemma => kernel_rfl) (by as_aux_lemma => kernel_rfl) (by rfl) ?y4 (HBX _ hc0) (by rfl) ?_
      case y4 =>
        rintro w' ⟨f0, f1, f2, f3, f4, f5, f6, f7, f8, f9, f10, f11, f12, f13⟩
        simp only [List.getElem_toArray, List.getElem_cons_zero, List.getElem_cons_succ]
        go_simp
      simp only [List.getElem_toArray, List.getElem_cons_zero, List.getElem_cons_succ, Act.put, List.setIfInBounds_toArray, List.set_cons_zero, List.set_cons_succ]
      refine wpAnyG.one 2 (by as_aux_lemma => kernel_rfl) (by decide) (by rfl) (fun K hK => ?_)
      simp only [List.getElem_toArray, List.getElem_cons_zero, List.getElem_cons_succ]
      go_simp
      refine (HVP z0 (bel_tr hb hc0)).mono ?_
      rintro e z1 ⟨g1, u1, i1, j1, o1, s1, x1, rfl, G1, hk1⟩
      have hc1 : Below wr.heap.size wr z1 := bel_tr hc0 hk1
      dsimp only
      refine hK _ _ (HBX _ hc1) ?_
      clear hK K
      refine wpAnyG.one 5 (by as_aux_lemma => kernel_rfl) (by decide) (by rfl) (fun K hK => ?_)
      simp only [List.getElem_toArray, List.getElem_cons_zero, List.getElem_cons_succ]
      go_simp
      refine (HVQ z1 hc1).mono ?_
      rintro e z2 ⟨g2, u2, i2, j2, o2, s2, x2, rfl, G2, hk2⟩
      have hc2 : Below wr.heap.size wr z2 := bel_tr hc1 hk2
      dsimp only
      refine hK _ _ (HBX _ hc2) ?_
      clear hK K
      refine wpAnyG.one 6 (by as_aux_lemma => kernel_rfl) (by decide) (by rfl) (fun K hK => ?_)
      simp only [List.getElem_toArray, List.getElem_cons_zero, List.getElem_cons_succ]
      go_simp
      refine (cmpB 0 z2 (G1.tr.below hk2) G2.tr (by omega) (by omega) (by omega) (cs_same rfl)).mono ?_
      rintro e z3 ⟨rfl, hk3⟩
      have hc3 : Below wr.heap.size wr z3 := bel_tr hc2 hk3
      dsimp only
      refine hK _ _ (HBX _ hc3) ?_
      clear hK K
      refine wpAnyG.take 7 (v := .bool true) (by decide) (by as_aux_lemma => kernel_rfl) (fun _ _ _ h => h) 8 _ (by rfl) (fun _ _ => Iff.rfl) (fun _ _ _ h => h) (by as_aux_lemma => kernel_rfl) (by as_aux_lemma => kernel_rfl) (by as_aux_lemma => kernel_rfl) (by rfl) ?y7 (HBX _ hc3) (by rfl) ?_
      case y7 =>
        rintro w' ⟨f0, f1, f2, f3, f4, f5, f6, f7, f8, f9, f10, f11, f12, f13⟩
        simp only [List.getElem_toArray, List.getElem_cons_zero, List.getElem_cons_succ]
        go_simp
      simp only [List.getElem_toArray, List.getElem_cons_zero, List.getElem_cons_succ, Act.put, List.setIfInBounds_toArray, List.set_cons_zero, List.set_cons_succ]
      refine wpAnyG.one 8 (by as_aux_lemma => kernel_rfl) (by decide) (by rfl) (fun K hK => ?_)
      simp only [List.getElem_toArray, List.getElem_cons_zero, List.getElem_cons_succ]
      go_simp
      refine hK _ _ (HBX _ hc3) ?_
      clear hK K
      refine wpAnyG.done (by as_aux_lemma => kernel_rfl) (NoPanic.normal ?_)
      replace Pb := Pb.below hc3
      replace Qb := Qb.below hc3
      replace hb := bel_tr hb hc3
      have hw3 := hc3
      clear HBX G1 G2 hk1 hk2 hk3 hc0 hc1 hc2 hc3 HVP HVQ
      go_wp2_with fail
      have HBX : ∀ w', Below z3.heap.size z3 w' → (w'.cell? ⟨w.heap.size, 0, none⟩ = some (.bool P.mx) ∧ w'.cell? ⟨w.heap.size, 1, none⟩ = some (.string P.nm) ∧ w'.cell? ⟨w.heap.size, 2, none⟩ = some (.bool P.p) ∧ w'.cell? ⟨w.heap.size, 3, none⟩ = some (.slice P.a P.na P.ca) ∧ w'.cell? ⟨w.heap.size, 4, none⟩ = some (.slice P.d P.nd P.cd) ∧ w'.cell? ⟨w.heap.size, 5, none⟩ = some (.slice P.va P.vn P.vc) ∧ w'.cell? ⟨w.heap.size, 6, none⟩ = some (.slice P.ra P.rn P.rc) ∧ w'.cell? ⟨RQ, 0, none⟩ = some (.bool P.mx) ∧ w'.cell? ⟨RQ, 1, none⟩ = some (.string P.nm) ∧ w'.cell? ⟨RQ, 2, none⟩ = some (.bool Q.p) ∧ w'.cell? ⟨RQ, 3, none⟩ = some (.slice Q.a Q.na Q.ca) ∧ w'.cell? ⟨RQ, 4, none⟩ = some (.slice Q.d Q.nd Q.cd) ∧ w'.cell? ⟨RQ, 5, none⟩ = some (.slice Q.va P.vn Q.vc) ∧ w'.cell? ⟨RQ, 6, none⟩ = some (.slice Q.ra P.rn Q.rc)) := fun w' h => ⟨Pb.below h 0 _ rfl, Pb.below h 1 _ rfl, Pb.below h 2 _ rfl, Pb.below h 3 _ rfl, Pb.below h 4 _ rfl, Pb.below h 5 _ rfl, Pb.below h 6 _ rfl, Qb.below h 0 _ rfl, Qb.below h 1 _ rfl, Qb.below h 2 _ rfl, Qb.below h 3 _ rfl, Qb.below h 4 _ rfl, Qb.below h 5 _ rfl, Qb.below h 6 _ rfl⟩
      refine wp_region_noPanic (wp_region_guard (fun _ w' => w'.cell? ⟨w.heap.size, 0, none⟩ = some (.bool P.mx) ∧ w'.cell? ⟨w.heap.size, 1, none⟩ = some (.string P.nm) ∧ w'.cell? ⟨w.heap.size, 2, none⟩ = some (.bool P.p) ∧ w'.cell? ⟨w.heap.size, 3, none⟩ = some (.slice P.a P.na P.ca) ∧ w'.cell? ⟨w.heap.size, 4, none⟩ = some (.slice P.d P.nd P.cd) ∧ w'.cell? ⟨w.heap.size, 5, none⟩ = some (.slice P.va P.vn P.vc) ∧ w'.cell? ⟨w.heap.size, 6, none⟩ = some (.slice P.ra P.rn P.rc) ∧ w'.cell? ⟨RQ, 0, none⟩ = some (.bool P.mx) ∧ w'.cell? ⟨RQ, 1, none⟩ = some (.string P.nm) ∧ w'.cell? ⟨RQ, 2, none⟩ = some (.bool Q.p) ∧ w'.cell? ⟨RQ, 3, none⟩ = some (.slice Q.a Q.na Q.ca) ∧ w'.cell? ⟨RQ, 4, none⟩ = some (.slice Q.d Q.nd Q.cd) ∧ w'.cell? ⟨RQ, 5, none⟩ = some (.slice Q.va P.vn Q.vc) ∧ w'.cell? ⟨RQ, 6, none⟩ = some (.slice Q.ra P.rn Q.rc)) (by as_aux_lemma => kernel_rfl) ?_)
      have hc0 : Below z3.heap.size z3 z3.drew := bel_d1 _
      generalize z3.drew = y0 at *
      refine wpAnyG.take 0 (v := .agg #[.bool P.mx, .string P.nm, .bool P.p, .slice P.a P.na P.ca, .slice P.d P.nd P.cd, .slice P.va P.vn P.vc, .slice P.ra P.rn P.rc]) (by decide) (by as_aux_lemma => kernel_rfl) (fun _ _ _ h => h) 2 _ (by rfl) (fun _ _ => Iff.rfl) (fun _ _ _ h => h) (by as_aux_lemma => kernel_rfl) (by as_aux_lemma => kernel_rfl) (by as_aux_lemma => kernel_rfl) (by rfl) ?y0 (HBX _ hc0) (by rfl) ?_
      case y0 =>
        rintro w' ⟨f0, f1, f2, f3, f4, f5, f6, f7, f8, f9, f10, f11, f12, f13⟩
        simp only [List.getElem_toArray, List.getElem_cons_zero]
        go_simp
      simp only [List.getElem_toArray, List.getElem_cons_zero, Act.put, List.setIfInBounds_toArray, List.set_cons_zero, List.set_cons_succ]
      refine wpAnyG.take 1 (v := .slice xa nx xc) (by decide) (by as_aux_lemma => kernel_rfl) (fun _ _ _ h => h) 2 _ (by rfl) (fun _ _ => Iff.rfl) (fun _ _ _ h => h) (by as_aux_lemma => kernel_rfl) (by as_aux_lemma => kernel_rfl) (by as_aux_lemma => kernel_rfl) (by rfl) ?y1 (HBX _ hc0) (by rfl) ?_
      case y1 =>
        rintro w' ⟨f0, f1, f2, f3, f4, f5, f6, f7, f8, f9, f10, f11, f12, f13⟩
        simp only [List.getElem_toArray, List.getElem_cons_zero, List.getElem_cons_succ]
        go_simp
      simp only [List.getElem_toArray, List.getElem_cons_zero, List.getElem_cons_succ, Act.put, List.setIfInBounds_toArray, List.set_cons_zero, List.set_cons_succ]
      refine wpAnyG.take 3 (v := .agg #[.bool P.mx, .string P.nm, .bool Q.p, .slice Q.a Q.na Q.ca, .slice Q.d Q.nd Q.cd, .slice Q.va P.vn Q.vc, .slice Q.ra P.rn Q.rc]) (by decide) (by as_aux_lemma => kernel_rfl) (fun _ _ _ h => h) 5 _ (by rfl) (fun _ _ => Iff.rfl) (fun _ _ _ h => h) (by as_aux_lemma => kernel_rfl) (by as_aux_lemma => kernel_rfl) (by as_aux_lemma => kernel_rfl) (by rfl) ?y3 (HBX _ hc0) (by rfl) ?_
      case y3 =>
        rintro w' ⟨f0, f1, f2, f3, f4, f5, f6, f7, f8, f9, f10, f11, f12, f13⟩
        simp only [List.getElem_toArray, List.getElem_cons_zero, List.getElem_cons_succ]
        go_simp
      simp only [List.getElem_toArray, List.getElem_cons_zero, List.getElem_cons_succ, Act.put, List.setIfInBounds_toArray, List.set_cons_zero, List.set_cons_succ]
      refine wpAnyG.take 4 (v := .slice xa nx xc) (by decide) (by as_aux_lemma => kernel_rfl) (fun _ _ _ h => h) 5 _ (by rfl) (fun _ _ => Iff.rfl) (fun _ _ _ h => h) (by as_aux_lemma => kernel_rfl) (by as_aux_lemma => kernel_rfl) (by as_aux_lemma => kernel_rfl) (by rfl) ?y4 (HBX _ hc0) (by rfl) ?_
      case y4 =>
        rintro w' ⟨f0, f1, f2, f3, f4, f5, f6, f7, f8, f9, f10, f11, f12, f13⟩
        simp only [List.getElem_toArray, List.getElem_cons_zero, List.getElem_cons_succ]
        go_simp
      simp only [List.getElem_toArray, List.getElem_cons_zero, List.getElem_cons_succ, Act.put, List.setIfInBounds_toArray, List.set_cons_zero, List.set_cons_succ]
      refine wpAnyG.one 2 (by as_aux_lemma => kernel_rfl) (by decide) (by rfl) (fun K hK => ?_)
      simp only [List.getElem_toArray, List.getElem_cons_zero, List.getElem_cons_succ]
      go_simp
      refine (HSP y0 (bel_tr hb hc0)).mono ?_
      rintro e y1 ⟨a1, k1, rfl, L1, hk1⟩
      have hc1 : Below z3.heap.size z3 y1 := bel_tr hc0 hk1
      dsimp only
      refine hK _ _ (HBX _ hc1) ?_
      clear hK K
      refine wpAnyG.one 5 (by as_aux_lemma => kernel_rfl) (by decide) (by rfl) (fun K hK => ?_)
      simp only [List.getElem_toArray, List.getElem_cons_zero, List.getElem_cons_succ]
      go_simp
      refine (HSQ y1 (bel_tr hw3 hc1)).mono ?_
      rintro e y2 ⟨a2, k2, rfl, L2, hk2⟩
      have hc2 : Below z3.heap.size z3 y2 := bel_tr hc1 hk2
      dsimp only
      refine hK _ _ (HBX _ hc2) ?_
      clear hK K
      refine wpAnyG.one 6 (by as_aux_lemma => kernel_rfl) (by decide) (by rfl) (fun K hK => ?_)
      simp only [List.getElem_toArray, List.getElem_cons_zero, List.getElem_cons_succ]
      go_simp
      refine (alikeQ y2 (L1.lq.below hk2) L2.lq (fun j hj => ⟨by show 1 ≤ 2097160; omega, by show 1 ≤ 2097160; omega, by show 2097160 + 2097160 ≤ 9000000; omega⟩) (fun j hj => rfl) (by omega)).mono ?_
      rintro e y3 ⟨rfl, hk3⟩
      have hc3 : Below z3.heap.size z3 y3 := bel_tr hc2 hk3
      dsimp only
      refine hK _ _ (HBX _ hc3) ?_
      clear hK K
      refine wpAnyG.one 7 (by as_aux_lemma => kernel_rfl) (by decide) (by rfl) (fun K hK => ?_)
      simp only [List.getElem_toArray, List.getElem_cons_zero, List.getElem_cons_succ]
      go_simp
      refine hK _ _ (HBX _ hc3) ?_
      clear hK K
      refine wpAnyG.done (by as_aux_lemma => kernel_rfl) (NoPanic.normal ?_)
      replace Pb := Pb.below hc3
      replace Qb := Qb.below hc3
      replace hb := bel_tr hb hc3
      have hw4 := bel_tr hw3 hc3
      clear HBX L1 L2 hk1 hk2 hk3 hc0 hc1 hc2 hc3 HSP HSQ hw3
      go_wp2_with fail
      have HBX : ∀ w', Below y3.heap.size y3 w' → (w'.cell? ⟨w.heap.size, 0, none⟩ = some (.bool P.mx) ∧ w'.cell? ⟨w.heap.size, 1, none⟩ = some (.string P.nm) ∧ w'.cell? ⟨w.heap.size, 2, none⟩ = some (.bool P.p) ∧ w'.cell? ⟨w.heap.size, 3, none⟩ = some (.slice P.a P.na P.ca) ∧ w'.cell? ⟨w.heap.size, 4, none⟩ = some (.slice P.d P.nd P.cd) ∧ w'.cell? ⟨w.heap.size, 5, none⟩ = some (.slice P.va P.vn P.vc) ∧ w'.cell? ⟨w.heap.size, 6, none⟩ = some (.slice P.ra P.rn P.rc) ∧ w'.cell? ⟨RQ, 0, none⟩ = some (.bool P.mx) ∧ w'.cell? ⟨RQ, 1, none⟩ = some (.string P.nm) ∧ w'.cell? ⟨RQ, 2, none⟩ = some (.bool Q.p) ∧ w'.cell? ⟨RQ, 3, none⟩ = some (.slice Q.a Q.na Q.ca) ∧ w'.cell? ⟨RQ, 4, none⟩ = some (.slice Q.d Q.nd Q.cd) ∧ w'.cell? ⟨RQ, 5, none⟩ = some (.slice Q.va P.vn Q.vc) ∧ w'.cell? ⟨RQ, 6, none⟩ = some (.slice Q.ra P.rn Q.rc)) := fun w' h => ⟨Pb.below h 0 _ rfl, Pb.below h 1 _ rfl, Pb.below h 2 _ rfl, Pb.below h 3 _ rfl, Pb.below h 4 _ rfl, Pb.below h 5 _ rfl, Pb.below h 6 _ rfl, Qb.below h 0 _ rfl, Qb.below h 1 _ rfl, Qb.below h 2 _ rfl, Qb.below h 3 _ rfl, Qb.below h 4 _ rfl, Qb.below h 5 _ rfl, Qb.below h 6 _ rfl⟩
      refine wp_region_noPanic (wp_region_guard (fun _ w' => w'.cell? ⟨w.heap.size, 0, none⟩ = some (.bool P.mx) ∧ w'.cell? ⟨w.heap.size, 1, none⟩ = some (.string P.nm) ∧ w'.cell? ⟨w.heap.size, 2, none⟩ = some (.bool P.p) ∧ w'.cell? ⟨w.heap.size, 3, none⟩ = some (.slice P.a P.na P.ca) ∧ w'.cell? ⟨w.heap.size, 4, none⟩ = some (.slice P.d P.nd P.cd) ∧ w'.cell? ⟨w.heap.size, 5, none⟩ = some (.slice P.va P.vn P.vc) ∧ w'.cell? ⟨w.heap.size, 6, none⟩ = some (.slice P.ra P.rn P.rc) ∧ w'.cell? ⟨RQ, 0, none⟩ = some (.bool P.mx) ∧ w'.cell? ⟨RQ, 1, none⟩ = some (.string P.nm) ∧ w'.cell? ⟨RQ, 2, none⟩ = some (.bool Q.p) ∧ w'.cell? ⟨RQ, 3, none⟩ = some (.slice Q.a Q.na Q.ca) ∧ w'.cell? ⟨RQ, 4, none⟩ = some (.slice Q.d Q.nd Q.cd) ∧ w'.cell? ⟨RQ, 5, none⟩ = some (.slice Q.va P.vn Q.vc) ∧ w'.cell? ⟨RQ, 6, none⟩ = some (.slice Q.ra P.rn Q.rc)) (by as_aux_lemma => kernel_rfl) ?_)
      have hc0 : Below y3.heap.size y3 y3.drew := bel_d1 _
      generalize y3.drew = v0 at *
      refine wpAnyG.take 0 (v := .bool true) (by decide) (by as_aux_lemma => kernel_rfl) (fun _ _ _ h => h) 1 _ (by rfl) (fun _ _ => Iff.rfl) (fun _ _ _ h => h) (by as_aux_lemma => kernel_rfl) (by as_aux_lemma => kernel_rfl) (by as_aux_lemma => kernel_rfl) (by rfl) ?y0 (HBX _ hc0) (by rfl) ?_
      case y0 =>
        rintro w' ⟨f0, f1, f2, f3, f4, f5, f6, f7, f8, f9, f10, f11, f12, f13⟩
        simp only [List.getElem_toArray, List.getElem_cons_zero]
        go_simp
      simp only [List.getElem_toArray, List.getElem_cons_zero, Act.put, List.setIfInBounds_toArray, List.set_cons_zero, List.set_cons_succ]
      refine wpAnyG.take 1 (v := .bool true) (by decide) (by as_aux_lemma => kernel_rfl) (fun _ _ _ h => h) 4 _ (by rfl) (fun _ _ => Iff.rfl) (fun _ _ _ h => h) (by as_aux_lemma => kernel_rfl) (by as_aux_lemma => kernel_rfl) (by as_aux_lemma => kernel_rfl) (by rfl) ?y1 (HBX _ hc0) (by rfl) ?_
      case y1 =>
        rintro w' ⟨f0, f1, f2, f3, f4, f5, f6, f7, f8, f9, f10, f11, f12, f13⟩
        simp only [List.getElem_toArray, List.getElem_cons_zero, List.getElem_cons_succ]
        go_simp
      simp only [List.getElem_toArray, List.getElem_cons_zero, List.getElem_cons_succ, Act.put, List.setIfInBounds_toArray, List.set_cons_zero, List.set_cons_succ]
      refine wpAnyG.take 2 (v := .bool true) (by decide) (by as_aux_lemma => kernel_rfl) (fun _ _ _ h => h) 3 _ (by rfl) (fun _ _ => Iff.rfl) (fun _ _ _ h => h) (by as_aux_lemma => kernel_rfl) (by as_aux_lemma => kernel_rfl) (by as_aux_lemma => kernel_rfl) (by rfl) ?y2 (HBX _ hc0) (by rfl) ?_
      case y2 =>
        rintro w' ⟨f0, f1, f2, f3, f4, f5, f6, f7, f8, f9, f10, f11, f12, f13⟩
        simp only [List.getElem_toArray, List.getElem_cons_zero, List.getElem_cons_succ]
        go_simp
      simp only [List.getElem_toArray, List.getElem_cons_zero, List.getElem_cons_succ, Act.put, List.setIfInBounds_toArray, List.set_cons_zero, List.set_cons_succ]
      refine wpAnyG.take 3 (v := .bool true) (by decide) (by as_aux_lemma => kernel_rfl) (fun _ _ _ h => h) 4 _ (by rfl) (fun _ _ => Iff.rfl) (fun _ _ _ h => h) (by as_aux_lemma => kernel_rfl) (by as_aux_lemma => kernel_rfl) (by as_aux_lemma => kernel_rfl) (by rfl) ?y3 (HBX _ hc0) (by rfl) ?_
      case y3 =>
        rintro w' ⟨f0, f1, f2, f3, f4, f5, f6, f7, f8, f9, f10, f11, f12, f13⟩
        simp only [List.getElem_toArray, List.getElem_cons_zero, List.getElem_cons_succ]
        go_simp
      simp only [List.getElem_toArray, List.getElem_cons_zero, List.getElem_cons_succ, Act.put, List.setIfInBounds_toArray, List.set_cons_zero, List.set_cons_succ]
      refine wpAnyG.take 4 (v := .bool true) (by decide) (by as_aux_lemma => kernel_rfl) (fun _ _ _ h => h) 12 _ (by rfl) (fun _ _ => Iff.rfl) (fun _ _ _ h => h) (by as_aux_lemma => kernel_rfl) (by as_aux_lemma => kernel_rfl) (by as_aux_lemma => kernel_rfl) (by rfl) ?y4 (HBX _ hc0) (by rfl) ?_
      case y4 =>
        rintro w' ⟨f0, f1, f2, f3, f4, f5, f6, f7, f8, f9, f10, f11, f12, f13⟩
        simp only [List.getElem_toArray, List.getElem_cons_zero, List.getElem_cons_succ]
        go_simp
      simp only [List.getElem_toArray, List.getElem_cons_zero, List.getElem_cons_succ, Act.put, List.setIfInBounds_toArray, List.set_cons_zero, List.set_cons_succ]
      refine wpAnyG.take 5 (v := .agg #[.bool P.mx, .string P.nm, .bool P.p, .slice P.a P.na P.ca, .slice P.d P.nd P.cd, .slice P.va P.vn P.vc, .slice P.ra P.rn P.rc]) (by decide) (by as_aux_lemma => kernel_rfl) (fun _ _ _ h => h) 7 _ (by rfl) (fun _ _ => Iff.rfl) (fun _ _ _ h => h) (by as_aux_lemma => kernel_rfl) (by as_aux_lemma => kernel_rfl) (by as_aux_lemma => kernel_rfl) (by rfl) ?y5 (HBX _ hc0) (by rfl) ?_
      case y5 =>
        rintro w' ⟨f0, f1, f2, f3, f4, f5, f6, f7, f8, f9, f10, f11, f12, f13⟩
        simp only [List.getElem_toArray, List.getElem_cons_zero, List.getElem_cons_succ]
        go_simp
      simp only [List.getElem_toArray, List.getElem_cons_zero, List.getElem_cons_succ, Act.put, List.setIfInBounds_toArray, List.set_cons_zero, List.set_cons_succ]
      refine wpAnyG.take 6 (v := .slice xa nx xc) (by decide) (by as_aux_lemma => kernel_rfl) (fun _ _ _ h => h) 7 _ (by rfl) (fun _ _ => Iff.rfl) (fun _ _ _ h => h) (by as_aux_lemma => kernel_rfl) (by as_aux_lemma => kernel_rfl) (by as_aux_lemma => kernel_rfl) (by rfl) ?y6 (HBX _ hc0) (by rfl) ?_
      case y6 =>
        rintro w' ⟨f0, f1, f2, f3, f4, f5, f6, f7, f8, f9, f10, f11, f12, f13⟩
        simp only [List.getElem_toArray, List.getElem_cons_zero, List.getElem_cons_succ]
        go_simp
      simp only [List.getElem_toArray, List.getElem_cons_zero, List.getElem_cons_succ, Act.put, List.setIfInBounds_toArray, List.set_cons_zero, List.set_cons_succ]
      refine wpAnyG.take 8 (v := .agg #[.bool P.mx, .string P.nm, .bool Q.p, .slice Q.a Q.na Q.ca, .slice Q.d Q.nd Q.cd, .slice Q.va P.vn Q.vc, .slice Q.ra P.rn Q.rc]) (by decide) (by as_aux_lemma => kernel_rfl) (fun _ _ _ h => h) 10 _ (by rfl) (fun _ _ => Iff.rfl) (fun _ _ _ h => h) (by as_aux_lemma => kernel_rfl) (by as_aux_lemma => kernel_rfl) (by as_aux_lemma => kernel_rfl) (by rfl) ?y8 (HBX _ hc0) (by rfl) ?_
      case y8 =>
        rintro w' ⟨f0, f1, f2, f3, f4, f5, f6, f7, f8, f9, f10, f11, f12, f13⟩
        simp only [List.getElem_toArray, List.getElem_cons_zero, List.getElem_cons_succ]
        go_simp
      simp only [List.getElem_toArray, List.getElem_cons_zero, List.getElem_cons_succ, Act.put, List.setIfInBounds_toArray, List.set_cons_zero, List.set_cons_succ]
      refine wpAnyG.take 9 (v := .slice xa nx xc) (by decide) (by as_aux_lemma => kernel_rfl) (fun _ _ _ h => h) 10 _ (by rfl) (fun _ _ => Iff.rfl) (fun _ _ _ h => h) (by as_aux_lemma => kernel_rfl) (by as_aux_lemma => kernel_rfl) (by as_aux_lemma => kernel_rfl) (by rfl) ?y9 (HBX _ hc0) (by rfl) ?_
      case y9 =>
        rintro w' ⟨f0, f1, f2, f3, f4, f5, f6, f7, f8, f9, f10, f11, f12, f13⟩
        simp only [List.getElem_toArray, List.getElem_cons_zero, List.getElem_cons_succ]
        go_simp
      simp only [List.getElem_toArray, List.getElem_cons_zero, List.getElem_cons_succ, Act.put, List.setIfInBounds_toArray, List.set_cons_zero, List.set_cons_succ]
      refine wpAnyG.one 7 (by as_aux_lemma => kernel_rfl) (by decide) (by rfl) (fun K hK => ?_)
      simp only [List.getElem_toArray, List.getElem_cons_zero, List.getElem_cons_succ]
      go_simp
      refine (HHP v0 (bel_tr hb hc0)).mono ?_
      rintro e v1 ⟨rfl, hk1⟩
      have hc1 : Below y3.heap.size y3 v1 := bel_tr hc0 hk1
      dsimp only
      refine hK _ _ (HBX _ hc1) ?_
      clear hK K
      refine wpAnyG.one 10 (by as_aux_lemma => kernel_rfl) (by decide) (by rfl) (fun K hK => ?_)
      simp only [List.getElem_toArray, List.getElem_cons_zero, List.getElem_cons_succ]
      go_simp
      refine (HHQ v1 (bel_tr hw4 hc1)).mono ?_
      rintro e v2 ⟨rfl, hk2⟩
      have hc2 : Below y3.heap.size y3 v2 := bel_tr hc1 hk2
      dsimp only
      refine hK _ _ (HBX _ hc2) ?_
      clear hK K
      refine wpAnyG.take 11 (v := .bool true) (by decide) (by as_aux_lemma => kernel_rfl) (fun _ _ _ h => h) 12 _ (by rfl) (fun _ _ => Iff.rfl) (fun _ _ _ h => h) (by as_aux_lemma => kernel_rfl) (by as_aux_lemma => kernel_rfl) (by as_aux_lemma => kernel_rfl) (by rfl) ?y11 (HBX _ hc2) (by rfl) ?_
      case y11 =>
        rintro w' ⟨f0, f1, f2, f3, f4, f5, f6, f7, f8, f9, f10, f11, f12, f13⟩
        simp only [List.getElem_toArray, List.getElem_cons_zero, List.getElem_cons_succ]
        go_simp
      simp only [List.getElem_toArray, List.getElem_cons_zero, List.getElem_cons_succ, Act.put, List.setIfInBounds_toArray, List.set_cons_zero, List.set_cons_succ]
      refine wpAnyG.take 12 (v := .bool true) (by decide) (by as_aux_lemma => kernel_rfl) (fun _ _ _ h => h) 13 _ (by rfl) (fun _ _ => Iff.rfl) (fun _ _ _ h => h) (by as_aux_lemma => kernel_rfl) (by as_aux_lemma => kernel_rfl) (by as_aux_lemma => kernel_rfl) (by rfl) ?y12 (HBX _ hc2) (by rfl) ?_
      case y12 =>
        rintro w' ⟨f0, f1, f2, f3, f4, f5, f6, f7, f8, f9, f10, f11, f12, f13⟩
        simp only [List.getElem_toArray, List.getElem_cons_zero, List.getElem_cons_succ]
        go_simp
      simp only [List.getElem_toArray, List.getElem_cons_zero, List.getElem_cons_succ, Act.put, List.setIfInBounds_toArray, List.set_cons_zero, List.set_cons_succ]
      refine wpAnyG.take 13 (v := .bool true) (by decide) (by as_aux_lemma => kernel_rfl) (fun _ _ _ h => h) 21 _ (by rfl) (fun _ _ => Iff.rfl) (fun _ _ _ h => h) (by as_aux_lemma => kernel_rfl) (by as_aux_lemma => kernel_rfl) (by as_aux_lemma => kernel_rfl) (by rfl) ?y13 (HBX _ hc2) (by rfl) ?_
      case y13 =>
        rintro w' ⟨f0, f1, f2, f3, f4, f5, f6, f7, f8, f9, f10, f11, f12, f13⟩
        simp only [List.getElem_toArray, List.getElem_cons_zero, List.getElem_cons_succ]
        go_simp
      simp only [List.getElem_toArray, List.getElem_cons_zero, List.getElem_cons_succ, Act.put, List.setIfInBounds_toArray, List.set_cons_zero, List.set_cons_succ]
      refine wpAnyG.take 14 (v := .agg #[.bool P.mx, .string P.nm, .bool P.p, .slice P.a P.na P.ca, .slice P.d P.nd P.cd, .slice P.va P.vn P.vc, .slice P.ra P.rn P.rc]) (by decide) (by as_aux_lemma => kernel_rfl) (fun _ _ _ h => h) 16 _ (by rfl) (fun _ _ => Iff.rfl) (fun _ _ _ h => h) (by as_aux_lemma => kernel_rfl) (by as_aux_lemma => kernel_rfl) (by as_aux_lemma => kernel_rfl) (by rfl) ?y14 (HBX _ hc2) (by rfl) ?_
      case y14 =>
        rintro w' ⟨f0, f1, f2, f3, f4, f5, f6, f7, f8, f9, f10, f11, f12, f13⟩
        simp only [List.getElem_toArray, List.getElem_cons_zero, List.getElem_cons_succ]
        go_simp
      simp only [List.getElem_toArray, List.getElem_cons_zero, List.getElem_cons_succ, Act.put, List.setIfInBounds_toArray, List.set_cons_zero, List.set_cons_succ]
      refine wpAnyG.take 15 (v := .slice xa nx xc) (by decide) (by as_aux_lemma => kernel_rfl) (fun _ _ _ h => h) 16 _ (by rfl) (fun _ _ => Iff.rfl) (fun _ _ _ h => h) (by as_aux_lemma => kernel_rfl) (by as_aux_lemma => kernel_rfl) (by as_aux_lemma => kernel_rfl) (by rfl) ?y15 (HBX _ hc2) (by rfl) ?_
      case y15 =>
        rintro w' ⟨f0, f1, f2, f3, f4, f5, f6, f7, f8, f9, f10, f11, f12, f13⟩
        simp only [List.getElem_toArray, List.getElem_cons_zero, List.getElem_cons_succ]
        go_simp
      simp only [List.getElem_toArray, List.getElem_cons_zero, List.getElem_cons_succ, Act.put, List.setIfInBounds_toArray, List.set_cons_zero, List.set_cons_succ]
      refine wpAnyG.take 17 (v := .agg #[.bool P.mx, .string P.nm, .bool Q.p, .slice Q.a Q.na Q.ca, .slice Q.d Q.nd Q.cd, .slice Q.va P.vn Q.vc, .slice Q.ra P.rn Q.rc]) (by decide) (by as_aux_lemma => kernel_rfl) (fun _ _ _ h => h) 19 _ (by rfl) (fun _ _ => Iff.rfl) (fun _ _ _ h => h) (by as_aux_lemma => kernel_rfl) (by as_aux_lemma => kernel_rfl) (by as_aux_lemma => kernel_rfl) (by rfl) ?y17 (HBX _ hc2) (by rfl) ?_
      case y17 =>
        rintro w' ⟨f0, f1, f2, f3, f4, f5, f6, f7, f8, f9, f10, f11, f12, f13⟩
        simp only [List.getElem_toArray, List.getElem_cons_zero, List.getElem_cons_succ]
        go_simp
      simp only [List.getElem_toArray, List.getElem_cons_zero, List.getElem_cons_succ, Act.put, List.setIfInBounds_toArray, List.set_cons_zero, List.set_cons_succ]
      refine wpAnyG.take 18 (v := .slice xa nx xc) (by decide) (by as_aux_lemma => kernel_rfl) (fun _ _ _ h => h) 19 _ (by rfl) (fun _ _ => Iff.rfl) (fun _ _ _ h => h) (by as_aux_lemma => kernel_rfl) (by as_aux_lemma => kernel_rfl) (by as_aux_lemma => kernel_rfl) (by rfl) ?y18 (HBX _ hc2) (by rfl) ?_
      case y18 =>
        rintro w' ⟨f0, f1, f2, f3, f4, f5, f6, f7, f8, f9, f10, f11, f12, f13⟩
        simp only [List.getElem_toArray, List.getElem_cons_zero, List.getElem_cons_succ]
        go_simp
      simp only [List.getElem_toArray, List.getElem_cons_zero, List.getElem_cons_succ, Act.put, List.setIfInBounds_toArray, List.set_cons_zero, List.set_cons_succ]
      refine wpAnyG.one 16 (by as_aux_lemma => kernel_rfl) (by decide) (by rfl) (fun K hK => ?_)
      simp only [List.getElem_toArray, List.getElem_cons_zero, List.getElem_cons_succ]
      go_simp
      refine (HWP v2 (bel_tr hb hc2)).mono ?_
      rintro e v3 ⟨rfl, hk3⟩
      have hc3 : Below y3.heap.size y3 v3 := bel_tr hc2 hk3
      dsimp only
      refine hK _ _ (HBX _ hc3) ?_
      clear hK K
      refine wpAnyG.one 19 (by as_aux_lemma => kernel_rfl) (by decide) (by rfl) (fun K hK => ?_)
      simp only [List.getElem_toArray, List.getElem_cons_zero, List.getElem_cons_succ]
      go_simp
      refine (HWQ v3 (bel_tr hw4 hc3)).mono ?_
      rintro e v4 ⟨rfl, hk4⟩
      have hc4 : Below y3.heap.size y3 v4 := bel_tr hc3 hk4
      dsimp only
      refine hK _ _ (HBX _ hc4) ?_
      clear hK K
      refine wpAnyG.take 20 (v := .bool true) (by decide) (by as_aux_lemma => kernel_rfl) (fun _ _ _ h => h) 21 _ (by rfl) (fun _ _ => Iff.rfl) (fun _ _ _ h => h) (by as_aux_lemma => kernel_rfl) (by as_aux_lemma => kernel_rfl) (by as_aux_lemma => kernel_rfl) (by rfl) ?y20 (HBX _ hc4) (by rfl) ?_
      case y20 =>
        rintro w' ⟨f0, f1, f2, f3, f4, f5, f6, f7, f8, f9, f10, f11, f12, f13⟩
        simp only [List.getElem_toArray, List.getElem_cons_zero, List.getElem_cons_succ]
        go_simp
      simp only [List.getElem_toArray, List.getElem_cons_zero, List.getElem_cons_succ, Act.put, List.setIfInBounds_toArray, List.set_cons_zero, List.set_cons_succ]
      refine wpAnyG.take 21 (v := .bool true) (by decide) (by as_aux_lemma => kernel_rfl) (fun _ _ _ h => h) 22 _ (by rfl) (fun _ _ => Iff.rfl) (fun _ _ _ h => h) (by as_aux_lemma => kernel_rfl) (by as_aux_lemma => kernel_rfl) (by as_aux_lemma => kernel_rfl) (by rfl) ?y21 (HBX _ hc4) (by rfl) ?_
      case y21 =>
        rintro w' ⟨f0, f1, f2, f3, f4, f5, f6, f7, f8, f9, f10, f11, f12, f13⟩
        simp only [List.getElem_toArray, List.getElem_cons_zero, List.getElem_cons_succ]
        go_simp
      simp only [List.getElem_toArray, List.getElem_cons_zero, List.getElem_cons_succ, Act.put, List.setIfInBounds_toArray, List.set_cons_zero, List.set_cons_succ]
      refine wpAnyG.one 22 (by as_aux_lemma => kernel_rfl) (by decide) (by rfl) (fun K hK => ?_)
      simp only [List.getElem_toArray, List.getElem_cons_zero, List.getElem_cons_succ]
      go_simp
      refine hK _ _ (HBX _ hc4) ?_
      clear hK K
      refine wpAnyG.done (by as_aux_lemma => kernel_rfl) (NoPanic.normal ?_)
      replace hb := bel_tr hb hc4
      go_wp2
      go_ret
      exact ⟨rfl, hb⟩
end Go.Proofs.YtpkfiomabiacaaaGreatDoor

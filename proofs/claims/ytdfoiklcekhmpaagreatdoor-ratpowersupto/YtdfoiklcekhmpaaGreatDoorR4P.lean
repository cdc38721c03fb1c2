import Derived.Test.YtdfoiklcekhmpaaGreatDoorR4E
import Derived.Test.YtdfoiklcekhmpaaGreatDoorR3S
import Derived.Test.YtdfoiklcekhmpaaGreatDoorR3M
import Derived.Test.YtdfoiklcekhmpaaGreatDoorR3SM
namespace Go.Proofs.YtdfoiklcekhmpaaGreatDoor
open Go.RowKit Go.Shelf

theorem txtQ_int (k : Int) : txtQ ((k : Int) : Rat) = txtI k := by
  unfold txtQ; rw [if_pos (Rat.den_intCast k), Rat.num_intCast]
theorem textZ (k : Int) {f : Bool} {c d : Option Addr} {n k2 m l B : Nat} (w : World) (G : GR w B f c n k2 d m l ((k : Int) : Rat) 1) (hT : TB w) :
    Calls Tryz.prog 11 #[.agg #[.bool f, .slice c n k2, .slice d m l]] w fun e w' => e = .returned (.string (txtI k)) ∧ Below w.heap.size w w' := by
  rw [← txtQ_int]; exact textQ w G.tr (by decide) (by decide) hT
theorem parse_e (k : Int) (w : World) (k0 : -9999 ≤ k) (k1 : k ≤ 9999) (hT : TB w) : Parses (⟨#[49, 101]⟩ ++ txtI k) (litV 1 k 0) 10002 w := lit_one 101 k (by decide) k0 k1 w hT
theorem parse_E (k : Int) (w : World) (k0 : -9999 ≤ k) (k1 : k ≤ 9999) (hT : TB w) : Parses (⟨#[49, 69]⟩ ++ txtI k) (litV 1 k 0) 10002 w := lit_one 69 k (by decide) k0 k1 w hT
theorem parse_EX (w : World) {ev : Value} (X : Errs w 0 ev) : Calls Tryz.prog 6 #[.string (⟨#[49, 69]⟩ ++ txtI 10000)] w fun e w' => e = .returned (.tuple #[.agg #[.bool false, .slice none 0 0, .slice none 0 0], ev]) ∧ Below w.heap.size w w' := lit_oneE 69 10000 (by decide) rfl w X
theorem digitsA {xs : List Int} {A : ByteArray} (e : dgs xs = A) {a : Option Addr} (cap : Nat) (w : World) (hc : xs.length ≤ cap) (hm : xs.length ≤ 2000000) (hr : ReadsB w a xs) (hb : ∀ x ∈ xs, 0 ≤ x ∧ x < 256) :
    Calls Tryz.prog 15 #[.slice a xs.length cap] w fun e w' => e = .returned (.string A) ∧ Below w.heap.size w w' := by
  subst e; exact digitsL a _ cap xs w rfl hc hm hr hb
theorem parse_pl {A B : ByteArray} {V : Int} (e : rdF (A ++ B) 0 (A ++ B).size = V) (w : World) (hA : AllD A) (hB : AllD B) (h0 : 0 < A.size + B.size) (h1 : A.size + B.size ≤ 1048576) (hT : TB w) : Parses (A ++ B) (litV V 0 0) (A.size + B.size + 10001) w := by
  have hs : (A ++ B).size = A.size + B.size := ByteArray.size_append
  rw [← e, ← hs]; exact lit_plain (A ++ B) (hA.app hB) (by omega) (by omega) w hT
theorem parse_sc {A B : ByteArray} {V : Int} (k : Int) (e : rdF (A ++ B) 0 (A ++ B).size = V) (w : World) (hA : AllD A) (hB : AllD B) (h0 : 0 < A.size + B.size) (h1 : A.size + B.size ≤ 1048576) (k0 : -9999 ≤ k) (k1 : k ≤ 9999) (hT : TB w) : Parses (A ++ B ++ ⟨#[101]⟩ ++ txtI k) (litV V k 0) (A.size + B.size + 10001) w := by
  have hs : (A ++ B).size = A.size + B.size := ByteArray.size_append
  have hz := size_txtI (k := k) (by omega)
  rw [← e, ← hs]; exact lit_exp (A ++ B) (txtI k) 101 k (by decide) (hA.app hB) (by omega) (by omega) (asc_txtI k) (not_txtI k 47 (by decide)) (by omega) (parsesX_txt k k0 k1 (by omega)) k0 k1 w hT
theorem parse_pt {A B : ByteArray} {V : Int} (e : rdF (A ++ B) 0 (A ++ B).size = V) (w : World) (hA : AllD A) (hB : AllD B) (h0 : 0 < A.size + B.size) (h1 : A.size + B.size ≤ 1048576) (hT : TB w) : Parses (A ++ ⟨#[46]⟩ ++ B) (litV V 0 B.size) (A.size + B.size + B.size + 10001) w := by
  have hs : (A ++ B).size = A.size + B.size := ByteArray.size_append
  rw [← e, ← hs]; exact lit_point A B hA hB (by omega) (by omega) w hT
theorem parse_ng (n : Nat) (w : World) (h9 : n ≤ 9999) (hT : TB w) : Parses (⟨#[49, 101, 45]⟩ ++ txtI (n : Int)) (litV 1 (-(n : Int)) 0) 10002 w := by
  have e : (⟨#[49, 101, 45]⟩ : ByteArray) ++ txtI (n : Int) = ⟨#[49]⟩ ++ ⟨#[101]⟩ ++ (⟨#[45]⟩ ++ txt n) := by
    have : txtI (n : Int) = txt n := by unfold txtI; rw [if_neg (by omega)]; rfl
    rw [this, ← ByteArray.append_assoc]; rfl
  rw [e]; exact lit_neg n h9 w hT
theorem tr_nought (w : World) : TR w false none 0 0 none 0 0 0 1 := ⟨0, 0, ((GI.nil _ 0).le (by decide)).ti, (Num.nil _).le1, by simp⟩
theorem neq_same (w : World) (pp : Addr) : (binOp .neq 30 (.iface 172 (.pointer (some pp))) (.iface 172 (.pointer (some pp)))).run Tryz.prog w = .ok (.bool false) w := by
  obtain ⟨i, hi, hcmp⟩ := Option.map_eq_some_iff.1 Tryz.errCompR
  obtain ⟨jj, hj, _⟩ := Option.map_eq_some_iff.1 Tryz.errSizeR
  simp only [binOp]
  simp [Op.equal, Op.maxDepth, run_equalIn_iface_ptr_same w 9998 pp Tryz.underlying30 Tryz.underlying172 hi hcmp hj]
set_option maxRecDepth 100000 in
set_option maxHeartbeats 20000000 in
theorem powers_walk {a b : Option Addr} {ca cb : Nat} {xs ys : List Int} {z : Int} (w : World) (hA : ReadsB w a xs) (hB : ReadsB w b ys) (hca : xs.length ≤ ca) (hcb : ys.length ≤ cb) (hxb : ∀ x ∈ xs, 0 ≤ x ∧ x < 256) (hyb : ∀ x ∈ ys, 0 ≤ x ∧ x < 256) (hs : xs.length + ys.length ≤ 1048576) (z0 : -9223372036854775808 ≤ z) (z1 : z < 9223372036854775808) (hT : TB w) {ev xv : Value} (E : Errs w 1 ev) (X : Errs w 0 xv) :
    Calls Tryz.prog 4 #[.slice a xs.length ca, .slice b ys.length cb, .int .i64 z] w fun e w' => e = .returned (.bool true) ∧ Below w.heap.size w w' := by
  obtain ⟨A, eA⟩ : ∃ A, Hid (dgs xs = A) := ⟨_, rfl⟩
  obtain ⟨B, eB⟩ : ∃ B, Hid (dgs ys = B) := ⟨_, rfl⟩
  obtain ⟨V, eV⟩ : ∃ V, Hid (rdF (A ++ B) 0 (A ++ B).size = V) := ⟨_, rfl⟩
  have hAD : Hid (AllD A) := eA.out ▸ allD_dgs xs
  have hBD : Hid (AllD B) := eB.out ▸ allD_dgs ys
  have hAB : A.size + B.size ≤ 1048576 := by rw [← eA.out, ← eB.out, size_dgs, size_dgs]; exact hs
  have hb0 := Below.refl w.heap.size w
  go_enter Tryz.func4, Tryz.ntmps4
  go_wp2_with fail
  refine (shownQ _ hT E).mono ?_
  rintro e w1 ⟨rfl, hx⟩
  replace hA := hA.below hx
  replace hB := hB.below hx
  replace hT := hT.below hx
  replace E := E.below hx
  replace X := X.below hx
  replace hb0 := bel_tr hb0 hx
  clear hx
  clear E
  go_wp2_with fail
  refine (pickL z _ z0 z1).mono ?_
  rintro e w2 ⟨r, rfl, r0, r1, hx⟩
  replace hA := hA.below hx
  replace hB := hB.below hx
  replace hT := hT.below hx
  replace X := X.below hx
  replace hb0 := bel_tr hb0 hx
  clear hx
  obtain ⟨k, rfl⟩ : ∃ k, r = k + 9999 := ⟨r - 9999, by omega⟩
  have k0 : -9999 ≤ k := by omega
  have k1 : k ≤ 9999 := by omega
  have hzk := size_txtI (k := k) (by omega)
  have ek : k + 9999 - 9999 = k := by omega
  go_wp2_with fail
  refine (ofQ 10 _ (by decide) (by decide)).mono ?_
  rintro e w3 ⟨ftn, ctn, ntn, ktn, dtn, mtn, ltn, rfl, Gtn, hx⟩
  replace hA := hA.below hx
  replace hB := hB.below hx
  replace hT := hT.below hx
  replace X := X.below hx
  replace hb0 := bel_tr hb0 hx
  clear hx
  have hx := bel_d0 w3 (.cells #[.bool ftn, .slice ctn ntn ktn, .slice dtn mtn ltn] 28)
  replace hA := hA.below hx
  replace hB := hB.below hx
  replace hT := hT.below hx
  replace X := X.below hx
  replace Gtn := Gtn.below hx
  replace hb0 := bel_tr hb0 hx
  have Vtn := var3_new w3 (.bool ftn) (.slice ctn ntn ktn) (.slice dtn mtn ltn) 28
  clear hx
  go_wp2_with fail
  generalize w3.alloc (.cells #[.bool ftn, .slice ctn ntn ktn, .slice dtn mtn ltn] 28) = w4 at *
  refine (ofQ k _ (by omega) (by omega)).mono ?_
  rintro e w5 ⟨fu, cu, nu, ku, du, mu, lu, rfl, Gu, hx⟩
  replace hA := hA.below hx
  replace hB := hB.below hx
  replace hT := hT.below hx
  replace X := X.below hx
  replace Gtn := Gtn.below hx
  replace Vtn := Vtn.below hx
  replace hb0 := bel_tr hb0 hx
  clear hx
  go_wp2_with fail
  refine (textZ k _ Gu hT).mono ?_
  rintro e w6 ⟨rfl, hx⟩
  replace hA := hA.below hx
  replace hB := hB.below hx
  replace hT := hT.below hx
  replace X := X.below hx
  replace Gtn := Gtn.below hx
  replace Gu := Gu.below hx
  replace Vtn := Vtn.below hx
  replace hb0 := bel_tr hb0 hx
  clear hx
  clear Gu
  go_wp2_with fail
  refine (parse_e k _ k0 k1 hT).mono ?_
  rintro e w7 ⟨fp, cp, np, kp, dp, mp, lp, rfl, Gp, hx⟩
  replace hA := hA.below hx
  replace hB := hB.below hx
  replace hT := hT.below hx
  replace X := X.below hx
  replace Gtn := Gtn.below hx
  replace Vtn := Vtn.below hx
  replace hb0 := bel_tr hb0 hx
  clear hx
  have hx := bel_d0 w7 (.cells #[.bool fp, .slice cp np kp, .slice dp mp lp] 28)
  replace hA := hA.below hx
  replace hB := hB.below hx
  replace hT := hT.below hx
  replace X := X.below hx
  replace Gtn := Gtn.below hx
  replace Gp := Gp.below hx
  replace Vtn := Vtn.below hx
  replace hb0 := bel_tr hb0 hx
  have Vp := var3_new w7 (.bool fp) (.slice cp np kp) (.slice dp mp lp) 28
  clear hx
  go_wp2_with fail
  generalize w7.alloc (.cells #[.bool fp, .slice cp np kp, .slice dp mp lp] 28) = w8 at *
  rcases (by omega : k = 9999 ∨ k < 9999) with rfl | hk9
  · have hzn := size_txtI (k := 10000) (by omega)
    refine (ofQ 10000 _ (by omega) (by omega)).mono ?_
    rintro e w9 ⟨fu, cu, nu, ku, du, mu, lu, rfl, Gu, hx⟩
    replace hA := hA.below hx
    replace hB := hB.below hx
    replace hT := hT.below hx
    replace X := X.below hx
    replace Gtn := Gtn.below hx
    replace Gp := Gp.below hx
    replace Vtn := Vtn.below hx
    replace Vp := Vp.below hx
    replace hb0 := bel_tr hb0 hx
    clear hx
    go_wp2_with fail
    refine (textZ 10000 _ Gu hT).mono ?_
    rintro e w10 ⟨rfl, hx⟩
    replace hA := hA.below hx
    replace hB := hB.below hx
    replace hT := hT.below hx
    replace X := X.below hx
    replace Gtn := Gtn.below hx
    replace Gp := Gp.below hx
    replace Gu := Gu.below hx
    replace Vtn := Vtn.below hx
    replace Vp := Vp.below hx
    replace hb0 := bel_tr hb0 hx
    clear hx
    clear Gu
    go_wp2_with fail
    refine (parse_EX _ X).mono ?_
    rintro e w11 ⟨rfl, hx⟩
    replace hA := hA.below hx
    replace hB := hB.below hx
    replace hT := hT.below hx
    replace X := X.below hx
    replace Gtn := Gtn.below hx
    replace Gp := Gp.below hx
    replace Vtn := Vtn.below hx
    replace Vp := Vp.below hx
    replace hb0 := bel_tr hb0 hx
    clear hx
    have hx := bel_d0 w11 (.cells #[.bool false, .slice none 0 0, .slice none 0 0] 28)
    replace hA := hA.below hx
    replace hB := hB.below hx
    replace hT := hT.below hx
    replace X := X.below hx
    replace Gtn := Gtn.below hx
    replace Gp := Gp.below hx
    replace Vtn := Vtn.below hx
    replace Vp := Vp.below hx
    replace hb0 := bel_tr hb0 hx
    have Vn := var3_new w11 (.bool false) (.slice none 0 0) (.slice none 0 0) 28
    clear hx
    obtain ⟨vpc0, vpc1, vpc2, vpc3, vpc4, vpc5⟩ := id Vp
    obtain ⟨vtnc0, vtnc1, vtnc2, vtnc3, vtnc4, vtnc5⟩ := id Vtn
    go_wp2_with fail
    generalize w11.alloc (.cells #[.bool false, .slice none 0 0, .slice none 0 0] 28) = w12 at *
    refine (mulQ _ Gp.tr Gtn.tr (by omega) (by omega) (by omega) hT).mono ?_
    rintro e w13 ⟨fq, cq, nq, kq, dq, mq, lq, rfl, Gq, hx⟩
    clear vpc0 vpc1 vpc2 vpc3 vpc4 vpc5 vtnc0 vtnc1 vtnc2 vtnc3 vtnc4 vtnc5
    replace hA := hA.below hx
    replace hB := hB.below hx
    replace hT := hT.below hx
    replace X := X.below hx
    replace Gtn := Gtn.below hx
    replace Gp := Gp.below hx
    replace Vtn := Vtn.below hx
    replace Vp := Vp.below hx
    replace Vn := Vn.below hx
    replace hb0 := bel_tr hb0 hx
    clear hx
    have hx := bel_d0 w13 (.cells #[.bool fq, .slice cq nq kq, .slice dq mq lq] 28)
    replace hA := hA.below hx
    replace hB := hB.below hx
    replace hT := hT.below hx
    replace X := X.below hx
    replace Gtn := Gtn.below hx
    replace Gp := Gp.below hx
    replace Gq := Gq.below hx
    replace Vtn := Vtn.below hx
    replace Vp := Vp.below hx
    replace Vn := Vn.below hx
    replace hb0 := bel_tr hb0 hx
    have Vq := var3_new w13 (.bool fq) (.slice cq nq kq) (.slice dq mq lq) 28
    clear hx
    obtain ⟨vnc0, vnc1, vnc2, vnc3, vnc4, vnc5⟩ := id Vn
    go_wp2_with fail
    generalize w13.alloc (.cells #[.bool fq, .slice cq nq kq, .slice dq mq lq] 28) = w14 at *
    refine (rsignR _ (tr_nought _) (by decide) (by decide)).mono ?_
    rintro e w15 ⟨zz, rfl, hzz, hx⟩
    clear vnc0 vnc1 vnc2 vnc3 vnc4 vnc5
    replace hA := hA.below hx
    replace hB := hB.below hx
    replace hT := hT.below hx
    replace X := X.below hx
    replace Gtn := Gtn.below hx
    replace Gp := Gp.below hx
    replace Gq := Gq.below hx
    replace Vtn := Vtn.below hx
    replace Vp := Vp.below hx
    replace Vn := Vn.below hx
    replace Vq := Vq.below hx
    replace hb0 := bel_tr hb0 hx
    clear hx
    obtain rfl : zz = 0 := by rw [hzz]; rfl
    clear hzz
    obtain ⟨xc, pp, rfl⟩ := id X
    have heq := neq_same w15 pp
    clear Vn
    clear Vq
    clear Gq
    clear Vtn
    clear Gtn
    go_wp2_with fail
    refine (digitsA eA.out ca _ hca (by omega) hA hxb).mono ?_
    rintro e w16 ⟨rfl, hx⟩
    replace hA := hA.below hx
    replace hB := hB.below hx
    replace hT := hT.below hx
    replace X := X.below hx
    replace Gp := Gp.below hx
    replace Vp := Vp.below hx
    replace hb0 := bel_tr hb0 hx
    clear hx
    go_wp2_with fail
    refine (digitsA eB.out cb _ hcb (by omega) hB hyb).mono ?_
    rintro e w17 ⟨rfl, hx⟩
    replace hA := hA.below hx
    replace hB := hB.below hx
    replace hT := hT.below hx
    replace X := X.below hx
    replace Gp := Gp.below hx
    replace Vp := Vp.below hx
    replace hb0 := bel_tr hb0 hx
    clear hx
    clear hA
    clear hB
    clear X
    by_cases h0 : (A.size : Int) + (B.size : Int) = 0
    · go_wp2
      go_ret
      exact ⟨rfl, hb0⟩
    by_cases h9 : (9999 : Int) < (B.size : Int)
    · go_wp2
      go_ret
      exact ⟨rfl, hb0⟩
    have h8 : (B.size : Int) ≤ 9999 := by omega
    have h0b : ((A.size : Int) + (B.size : Int) == 0) = false := by simpa using h0
    go_wp2_with fail
    refine (parse_pl eV.out _ hAD.out hBD.out (by omega) hAB hT).mono ?_
    rintro e w18 ⟨fl, cl, nl, kl, dl, ml, ll, rfl, Gl, hx⟩
    replace hT := hT.below hx
    replace Gp := Gp.below hx
    replace Vp := Vp.below hx
    replace hb0 := bel_tr hb0 hx
    clear hx
    have hx := bel_d0 w18 (.cells #[.bool fl, .slice cl nl kl, .slice dl ml ll] 28)
    replace hT := hT.below hx
    replace Gp := Gp.below hx
    replace Gl := Gl.below hx
    replace Vp := Vp.below hx
    replace hb0 := bel_tr hb0 hx
    have Vl := var3_new w18 (.bool fl) (.slice cl nl kl) (.slice dl ml ll) 28
    clear hx
    go_wp2_with fail
    generalize w18.alloc (.cells #[.bool fl, .slice cl nl kl, .slice dl ml ll] 28) = w19 at *
    refine (ofQ 9999 _ (by omega) (by omega)).mono ?_
    rintro e w20 ⟨fu, cu, nu, ku, du, mu, lu, rfl, Gu, hx⟩
    replace hT := hT.below hx
    replace Gp := Gp.below hx
    replace Gl := Gl.below hx
    replace Vp := Vp.below hx
    replace Vl := Vl.below hx
    replace hb0 := bel_tr hb0 hx
    clear hx
    go_wp2_with fail
    refine (textZ 9999 _ Gu hT).mono ?_
    rintro e w21 ⟨rfl, hx⟩
    replace hT := hT.below hx
    replace Gp := Gp.below hx
    replace Gl := Gl.below hx
    replace Gu := Gu.below hx
    replace Vp := Vp.below hx
    replace Vl := Vl.below hx
    replace hb0 := bel_tr hb0 hx
    clear hx
    clear Gu
    go_wp2_with fail
    refine (parse_sc 9999 eV.out _ hAD.out hBD.out (by omega) hAB (by omega) (by omega) hT).mono ?_
    rintro e w22 ⟨fs, cs, ns, ks, ds, ms, ls, rfl, Gs, hx⟩
    replace hT := hT.below hx
    replace Gp := Gp.below hx
    replace Gl := Gl.below hx
    replace Vp := Vp.below hx
    replace Vl := Vl.below hx
    replace hb0 := bel_tr hb0 hx
    clear hx
    have hx := bel_d0 w22 (.cells #[.bool fs, .slice cs ns ks, .slice ds ms ls] 28)
    replace hT := hT.below hx
    replace Gp := Gp.below hx
    replace Gl := Gl.below hx
    replace Gs := Gs.below hx
    replace Vp := Vp.below hx
    replace Vl := Vl.below hx
    replace hb0 := bel_tr hb0 hx
    have Vs := var3_new w22 (.bool fs) (.slice cs ns ks) (.slice ds ms ls) 28
    clear hx
    go_wp2_with fail
    generalize w22.alloc (.cells #[.bool fs, .slice cs ns ks, .slice ds ms ls] 28) = w23 at *
    refine (parse_pt eV.out _ hAD.out hBD.out (by omega) hAB hT).mono ?_
    rintro e w24 ⟨ft, ct, nt, kt, dt, mt, lt, rfl, Gt, hx⟩
    replace hT := hT.below hx
    replace Gp := Gp.below hx
    replace Gl := Gl.below hx
    replace Gs := Gs.below hx
    replace Vp := Vp.below hx
    replace Vl := Vl.below hx
    replace Vs := Vs.below hx
    replace hb0 := bel_tr hb0 hx
    clear hx
    have hx := bel_d0 w24 (.cells #[.bool ft, .slice ct nt kt, .slice dt mt lt] 28)
    replace hT := hT.below hx
    replace Gp := Gp.below hx
    replace Gl := Gl.below hx
    replace Gs := Gs.below hx
    replace Gt := Gt.below hx
    replace Vp := Vp.below hx
    replace Vl := Vl.below hx
    replace Vs := Vs.below hx
    replace hb0 := bel_tr hb0 hx
    have Vt := var3_new w24 (.bool ft) (.slice ct nt kt) (.slice dt mt lt) 28
    clear hx
    go_wp2_with fail
    generalize w24.alloc (.cells #[.bool ft, .slice ct nt kt, .slice dt mt lt] 28) = w25 at *
    have hzb := size_txtI (k := (B.size : Int)) (by omega)
    refine (ofQ (B.size : Int) _ (by omega) (by omega)).mono ?_
    rintro e w26 ⟨fu, cu, nu, ku, du, mu, lu, rfl, Gu, hx⟩
    replace hT := hT.below hx
    replace Gp := Gp.below hx
    replace Gl := Gl.below hx
    replace Gs := Gs.below hx
    replace Gt := Gt.below hx
    replace Vp := Vp.below hx
    replace Vl := Vl.below hx
    replace Vs := Vs.below hx
    replace Vt := Vt.below hx
    replace hb0 := bel_tr hb0 hx
    clear hx
    go_wp2_with fail
    refine (textZ (B.size : Int) _ Gu hT).mono ?_
    rintro e w27 ⟨rfl, hx⟩
    replace hT := hT.below hx
    replace Gp := Gp.below hx
    replace Gl := Gl.below hx
    replace Gs := Gs.below hx
    replace Gt := Gt.below hx
    replace Gu := Gu.below hx
    replace Vp := Vp.below hx
    replace Vl := Vl.below hx
    replace Vs := Vs.below hx
    replace Vt := Vt.below hx
    replace hb0 := bel_tr hb0 hx
    clear hx
    clear Gu
    go_wp2_with fail
    refine (parse_ng B.size _ (by omega) hT).mono ?_
    rintro e w28 ⟨fr, cr, nr, kr, dr, mr, lr, rfl, Gr, hx⟩
    replace hT := hT.below hx
    replace Gp := Gp.below hx
    replace Gl := Gl.below hx
    replace Gs := Gs.below hx
    replace Gt := Gt.below hx
    replace Vp := Vp.below hx
    replace Vl := Vl.below hx
    replace Vs := Vs.below hx
    replace Vt := Vt.below hx
    replace hb0 := bel_tr hb0 hx
    clear hx
    have hx := bel_d0 w28 (.cells #[.bool fr, .slice cr nr kr, .slice dr mr lr] 28)
    replace hT := hT.below hx
    replace Gp := Gp.below hx
    replace Gl := Gl.below hx
    replace Gs := Gs.below hx
    replace Gt := Gt.below hx
    replace Gr := Gr.below hx
    replace Vp := Vp.below hx
    replace Vl := Vl.below hx
    replace Vs := Vs.below hx
    replace Vt := Vt.below hx
    replace hb0 := bel_tr hb0 hx
    have Vr := var3_new w28 (.bool fr) (.slice cr nr kr) (.slice dr mr lr) 28
    clear hx
    obtain ⟨vlc0, vlc1, vlc2, vlc3, vlc4, vlc5⟩ := id Vl
    obtain ⟨vpc0, vpc1, vpc2, vpc3, vpc4, vpc5⟩ := id Vp
    go_wp2_with fail
    generalize w28.alloc (.cells #[.bool fr, .slice cr nr kr, .slice dr mr lr] 28) = w29 at *
    refine (mulQ _ Gl.tr Gp.tr (by omega) (by omega) (by omega) hT).mono ?_
    rintro e w30 ⟨fx, cx, nx, kx, dx, mx, lx, rfl, Gx, hx⟩
    clear vlc0 vlc1 vlc2 vlc3 vlc4 vlc5 vpc0 vpc1 vpc2 vpc3 vpc4 vpc5
    replace hT := hT.below hx
    replace Gp := Gp.below hx
    replace Gl := Gl.below hx
    replace Gs := Gs.below hx
    replace Gt := Gt.below hx
    replace Gr := Gr.below hx
    replace Vp := Vp.below hx
    replace Vl := Vl.below hx
    replace Vs := Vs.below hx
    replace Vt := Vt.below hx
    replace Vr := Vr.below hx
    replace hb0 := bel_tr hb0 hx
    clear hx
    have hx := bel_d0 w30 (.cells #[.bool fx, .slice cx nx kx, .slice dx mx lx] 28)
    replace hT := hT.below hx
    replace Gp := Gp.below hx
    replace Gl := Gl.below hx
    replace Gs := Gs.below hx
    replace Gt := Gt.below hx
    replace Gr := Gr.below hx
    replace Gx := Gx.below hx
    replace Vp := Vp.below hx
    replace Vl := Vl.below hx
    replace Vs := Vs.below hx
    replace Vt := Vt.below hx
    replace Vr := Vr.below hx
    replace hb0 := bel_tr hb0 hx
    have Vx := var3_new w30 (.bool fx) (.slice cx nx kx) (.slice dx mx lx) 28
    clear hx
    obtain ⟨vlc0, vlc1, vlc2, vlc3, vlc4, vlc5⟩ := id Vl
    obtain ⟨vrc0, vrc1, vrc2, vrc3, vrc4, vrc5⟩ := id Vr
    go_wp2_with fail
    generalize w30.alloc (.cells #[.bool fx, .slice cx nx kx, .slice dx mx lx] 28) = w31 at *
    refine (mulQ _ Gl.tr Gr.tr (by omega) (by omega) (by omega) hT).mono ?_
    rintro e w32 ⟨fy, cy, ny, ky, dy, my, ly, rfl, Gy, hx⟩
    clear vlc0 vlc1 vlc2 vlc3 vlc4 vlc5 vrc0 vrc1 vrc2 vrc3 vrc4 vrc5
    replace hT := hT.below hx
    replace Gp := Gp.below hx
    replace Gl := Gl.below hx
    replace Gs := Gs.below hx
    replace Gt := Gt.below hx
    replace Gr := Gr.below hx
    replace Gx := Gx.below hx
    replace Vp := Vp.below hx
    replace Vl := Vl.below hx
    replace Vs := Vs.below hx
    replace Vt := Vt.below hx
    replace Vr := Vr.below hx
    replace Vx := Vx.below hx
    replace hb0 := bel_tr hb0 hx
    clear hx
    have hx := bel_d0 w32 (.cells #[.bool fy, .slice cy ny ky, .slice dy my ly] 28)
    replace hT := hT.below hx
    replace Gp := Gp.below hx
    replace Gl := Gl.below hx
    replace Gs := Gs.below hx
    replace Gt := Gt.below hx
    replace Gr := Gr.below hx
    replace Gx := Gx.below hx
    replace Gy := Gy.below hx
    replace Vp := Vp.below hx
    replace Vl := Vl.below hx
    replace Vs := Vs.below hx
    replace Vt := Vt.below hx
    replace Vr := Vr.below hx
    replace Vx := Vx.below hx
    replace hb0 := bel_tr hb0 hx
    have Vy := var3_new w32 (.bool fy) (.slice cy ny ky) (.slice dy my ly) 28
    clear hx
    obtain ⟨vxc0, vxc1, vxc2, vxc3, vxc4, vxc5⟩ := id Vx
    obtain ⟨vsc0, vsc1, vsc2, vsc3, vsc4, vsc5⟩ := id Vs
    go_wp2_with fail
    generalize w32.alloc (.cells #[.bool fy, .slice cy ny ky, .slice dy my ly] 28) = w33 at *
    refine (sameQ _ Gx Gs (litV_exp V 9999) (by omega)).mono ?_
    rintro e w34 ⟨rfl, hx⟩
    clear vxc0 vxc1 vxc2 vxc3 vxc4 vxc5 vsc0 vsc1 vsc2 vsc3 vsc4 vsc5
    replace hT := hT.below hx
    replace Gp := Gp.below hx
    replace Gl := Gl.below hx
    replace Gs := Gs.below hx
    replace Gt := Gt.below hx
    replace Gr := Gr.below hx
    replace Gx := Gx.below hx
    replace Gy := Gy.below hx
    replace Vp := Vp.below hx
    replace Vl := Vl.below hx
    replace Vs := Vs.below hx
    replace Vt := Vt.below hx
    replace Vr := Vr.below hx
    replace Vx := Vx.below hx
    replace Vy := Vy.below hx
    replace hb0 := bel_tr hb0 hx
    clear hx
    obtain ⟨vyc0, vyc1, vyc2, vyc3, vyc4, vyc5⟩ := id Vy
    obtain ⟨vtc0, vtc1, vtc2, vtc3, vtc4, vtc5⟩ := id Vt
    go_wp2_with fail
    refine (sameQ _ Gy Gt (litV_point V B.size) (by omega)).mono ?_
    rintro e w35 ⟨rfl, hx⟩
    clear vyc0 vyc1 vyc2 vyc3 vyc4 vyc5 vtc0 vtc1 vtc2 vtc3 vtc4 vtc5
    replace hT := hT.below hx
    replace Gp := Gp.below hx
    replace Gl := Gl.below hx
    replace Gs := Gs.below hx
    replace Gt := Gt.below hx
    replace Gr := Gr.below hx
    replace Gx := Gx.below hx
    replace Gy := Gy.below hx
    replace Vp := Vp.below hx
    replace Vl := Vl.below hx
    replace Vs := Vs.below hx
    replace Vt := Vt.below hx
    replace Vr := Vr.below hx
    replace Vx := Vx.below hx
    replace Vy := Vy.below hx
    replace hb0 := bel_tr hb0 hx
    clear hx
    go_wp2
    go_ret
    exact ⟨rfl, hb0⟩
  · have hzn := size_txtI (k := k + 1) (by omega)
    refine (ofQ (k + 1) _ (by omega) (by omega)).mono ?_
    rintro e w9 ⟨fu, cu, nu, ku, du, mu, lu, rfl, Gu, hx⟩
    replace hA := hA.below hx
    replace hB := hB.below hx
    replace hT := hT.below hx
    replace X := X.below hx
    replace Gtn := Gtn.below hx
    replace Gp := Gp.below hx
    replace Vtn := Vtn.below hx
    replace Vp := Vp.below hx
    replace hb0 := bel_tr hb0 hx
    clear hx
    go_wp2_with fail
    refine (textZ (k + 1) _ Gu hT).mono ?_
    rintro e w10 ⟨rfl, hx⟩
    replace hA := hA.below hx
    replace hB := hB.below hx
    replace hT := hT.below hx
    replace X := X.below hx
    replace Gtn := Gtn.below hx
    replace Gp := Gp.below hx
    replace Gu := Gu.below hx
    replace Vtn := Vtn.below hx
    replace Vp := Vp.below hx
    replace hb0 := bel_tr hb0 hx
    clear hx
    clear Gu
    go_wp2_with fail
    refine (parse_E (k + 1) _ (by omega) (by omega) hT).mono ?_
    rintro e w11 ⟨fn, cn, nn, kn, dn, mn, ln, rfl, Gn, hx⟩
    replace hA := hA.below hx
    replace hB := hB.below hx
    replace hT := hT.below hx
    replace X := X.below hx
    replace Gtn := Gtn.below hx
    replace Gp := Gp.below hx
    replace Vtn := Vtn.below hx
    replace Vp := Vp.below hx
    replace hb0 := bel_tr hb0 hx
    clear hx
    have hx := bel_d0 w11 (.cells #[.bool fn, .slice cn nn kn, .slice dn mn ln] 28)
    replace hA := hA.below hx
    replace hB := hB.below hx
    replace hT := hT.below hx
    replace X := X.below hx
    replace Gtn := Gtn.below hx
    replace Gp := Gp.below hx
    replace Gn := Gn.below hx
    replace Vtn := Vtn.below hx
    replace Vp := Vp.below hx
    replace hb0 := bel_tr hb0 hx
    have Vn := var3_new w11 (.bool fn) (.slice cn nn kn) (.slice dn mn ln) 28
    clear hx
    obtain ⟨vpc0, vpc1, vpc2, vpc3, vpc4, vpc5⟩ := id Vp
    obtain ⟨vtnc0, vtnc1, vtnc2, vtnc3, vtnc4, vtnc5⟩ := id Vtn
    go_wp2_with fail
    generalize w11.alloc (.cells #[.bool fn, .slice cn nn kn, .slice dn mn ln] 28) = w12 at *
    refine (mulQ _ Gp.tr Gtn.tr (by omega) (by omega) (by omega) hT).mono ?_
    rintro e w13 ⟨fq, cq, nq, kq, dq, mq, lq, rfl, Gq, hx⟩
    clear vpc0 vpc1 vpc2 vpc3 vpc4 vpc5 vtnc0 vtnc1 vtnc2 vtnc3 vtnc4 vtnc5
    replace hA := hA.below hx
    replace hB := hB.below hx
    replace hT := hT.below hx
    replace X := X.below hx
    replace Gtn := Gtn.below hx
    replace Gp := Gp.below hx
    replace Gn := Gn.below hx
    replace Vtn := Vtn.below hx
    replace Vp := Vp.below hx
    replace Vn := Vn.below hx
    replace hb0 := bel_tr hb0 hx
    clear hx
    have hx := bel_d0 w13 (.cells #[.bool fq, .slice cq nq kq, .slice dq mq lq] 28)
    replace hA := hA.below hx
    replace hB := hB.below hx
    replace hT := hT.below hx
    replace X := X.below hx
    replace Gtn := Gtn.below hx
    replace Gp := Gp.below hx
    replace Gn := Gn.below hx
    replace Gq := Gq.below hx
    replace Vtn := Vtn.below hx
    replace Vp := Vp.below hx
    replace Vn := Vn.below hx
    replace hb0 := bel_tr hb0 hx
    have Vq := var3_new w13 (.bool fq) (.slice cq nq kq) (.slice dq mq lq) 28
    clear hx
    obtain ⟨vnc0, vnc1, vnc2, vnc3, vnc4, vnc5⟩ := id Vn
    go_wp2_with fail
    generalize w13.alloc (.cells #[.bool fq, .slice cq nq kq, .slice dq mq lq] 28) = w14 at *
    refine (rsignR _ Gn.tr (by decide) (by decide)).mono ?_
    rintro e w15 ⟨zz, rfl, -, hx⟩
    clear vnc0 vnc1 vnc2 vnc3 vnc4 vnc5
    replace hA := hA.below hx
    replace hB := hB.below hx
    replace hT := hT.below hx
    replace X := X.below hx
    replace Gtn := Gtn.below hx
    replace Gp := Gp.below hx
    replace Gn := Gn.below hx
    replace Gq := Gq.below hx
    replace Vtn := Vtn.below hx
    replace Vp := Vp.below hx
    replace Vn := Vn.below hx
    replace Vq := Vq.below hx
    replace hb0 := bel_tr hb0 hx
    clear hx
    obtain ⟨vnc0, vnc1, vnc2, vnc3, vnc4, vnc5⟩ := id Vn
    obtain ⟨vqc0, vqc1, vqc2, vqc3, vqc4, vqc5⟩ := id Vq
    go_wp2_with fail
    refine (sameQ _ Gq Gn (litV_up k) (by decide)).mono ?_
    rintro e w16 ⟨rfl, hx⟩
    clear vnc0 vnc1 vnc2 vnc3 vnc4 vnc5 vqc0 vqc1 vqc2 vqc3 vqc4 vqc5
    replace hA := hA.below hx
    replace hB := hB.below hx
    replace hT := hT.below hx
    replace X := X.below hx
    replace Gtn := Gtn.below hx
    replace Gp := Gp.below hx
    replace Gn := Gn.below hx
    replace Gq := Gq.below hx
    replace Vtn := Vtn.below hx
    replace Vp := Vp.below hx
    replace Vn := Vn.below hx
    replace Vq := Vq.below hx
    replace hb0 := bel_tr hb0 hx
    clear hx
    clear Vn
    clear Gn
    clear Vq
    clear Gq
    clear Vtn
    clear Gtn
    go_wp2_with fail
    refine (digitsA eA.out ca _ hca (by omega) hA hxb).mono ?_
    rintro e w17 ⟨rfl, hx⟩
    replace hA := hA.below hx
    replace hB := hB.below hx
    replace hT := hT.below hx
    replace X := X.below hx
    replace Gp := Gp.below hx
    replace Vp := Vp.below hx
    replace hb0 := bel_tr hb0 hx
    clear hx
    go_wp2_with fail
    refine (digitsA eB.out cb _ hcb (by omega) hB hyb).mono ?_
    rintro e w18 ⟨rfl, hx⟩
    replace hA := hA.below hx
    replace hB := hB.below hx
    replace hT := hT.below hx
    replace X := X.below hx
    replace Gp := Gp.below hx
    replace Vp := Vp.below hx
    replace hb0 := bel_tr hb0 hx
    clear hx
    clear hA
    clear hB
    clear X
    by_cases h0 : (A.size : Int) + (B.size : Int) = 0
    · go_wp2
      go_ret
      exact ⟨rfl, hb0⟩
    by_cases h9 : (9999 : Int) < (B.size : Int)
    · go_wp2
      go_ret
      exact ⟨rfl, hb0⟩
    have h8 : (B.size : Int) ≤ 9999 := by omega
    have h0b : ((A.size : Int) + (B.size : Int) == 0) = false := by simpa using h0
    go_wp2_with fail
    refine (parse_pl eV.out _ hAD.out hBD.out (by omega) hAB hT).mono ?_
    rintro e w19 ⟨fl, cl, nl, kl, dl, ml, ll, rfl, Gl, hx⟩
    replace hT := hT.below hx
    replace Gp := Gp.below hx
    replace Vp := Vp.below hx
    replace hb0 := bel_tr hb0 hx
    clear hx
    have hx := bel_d0 w19 (.cells #[.bool fl, .slice cl nl kl, .slice dl ml ll] 28)
    replace hT := hT.below hx
    replace Gp := Gp.below hx
    replace Gl := Gl.below hx
    replace Vp := Vp.below hx
    replace hb0 := bel_tr hb0 hx
    have Vl := var3_new w19 (.bool fl) (.slice cl nl kl) (.slice dl ml ll) 28
    clear hx
    go_wp2_with fail
    generalize w19.alloc (.cells #[.bool fl, .slice cl nl kl, .slice dl ml ll] 28) = w20 at *
    refine (ofQ k _ (by omega) (by omega)).mono ?_
    rintro e w21 ⟨fu, cu, nu, ku, du, mu, lu, rfl, Gu, hx⟩
    replace hT := hT.below hx
    replace Gp := Gp.below hx
    replace Gl := Gl.below hx
    replace Vp := Vp.below hx
    replace Vl := Vl.below hx
    replace hb0 := bel_tr hb0 hx
    clear hx
    go_wp2_with fail
    refine (textZ k _ Gu hT).mono ?_
    rintro e w22 ⟨rfl, hx⟩
    replace hT := hT.below hx
    replace Gp := Gp.below hx
    replace Gl := Gl.below hx
    replace Gu := Gu.below hx
    replace Vp := Vp.below hx
    replace Vl := Vl.below hx
    replace hb0 := bel_tr hb0 hx
    clear hx
    clear Gu
    go_wp2_with fail
    refine (parse_sc k eV.out _ hAD.out hBD.out (by omega) hAB (by omega) (by omega) hT).mono ?_
    rintro e w23 ⟨fs, cs, ns, ks, ds, ms, ls, rfl, Gs, hx⟩
    replace hT := hT.below hx
    replace Gp := Gp.below hx
    replace Gl := Gl.below hx
    replace Vp := Vp.below hx
    replace Vl := Vl.below hx
    replace hb0 := bel_tr hb0 hx
    clear hx
    have hx := bel_d0 w23 (.cells #[.bool fs, .slice cs ns ks, .slice ds ms ls] 28)
    replace hT := hT.below hx
    replace Gp := Gp.below hx
    replace Gl := Gl.below hx
    replace Gs := Gs.below hx
    replace Vp := Vp.below hx
    replace Vl := Vl.below hx
    replace hb0 := bel_tr hb0 hx
    have Vs := var3_new w23 (.bool fs) (.slice cs ns ks) (.slice ds ms ls) 28
    clear hx
    go_wp2_with fail
    generalize w23.alloc (.cells #[.bool fs, .slice cs ns ks, .slice ds ms ls] 28) = w24 at *
    refine (parse_pt eV.out _ hAD.out hBD.out (by omega) hAB hT).mono ?_
    rintro e w25 ⟨ft, ct, nt, kt, dt, mt, lt, rfl, Gt, hx⟩
    replace hT := hT.below hx
    replace Gp := Gp.below hx
    replace Gl := Gl.below hx
    replace Gs := Gs.below hx
    replace Vp := Vp.below hx
    replace Vl := Vl.below hx
    replace Vs := Vs.below hx
    replace hb0 := bel_tr hb0 hx
    clear hx
    have hx := bel_d0 w25 (.cells #[.bool ft, .slice ct nt kt, .slice dt mt lt] 28)
    replace hT := hT.below hx
    replace Gp := Gp.below hx
    replace Gl := Gl.below hx
    replace Gs := Gs.below hx
    replace Gt := Gt.below hx
    replace Vp := Vp.below hx
    replace Vl := Vl.below hx
    replace Vs := Vs.below hx
    replace hb0 := bel_tr hb0 hx
    have Vt := var3_new w25 (.bool ft) (.slice ct nt kt) (.slice dt mt lt) 28
    clear hx
    go_wp2_with fail
    generalize w25.alloc (.cells #[.bool ft, .slice ct nt kt, .slice dt mt lt] 28) = w26 at *
    have hzb := size_txtI (k := (B.size : Int)) (by omega)
    refine (ofQ (B.size : Int) _ (by omega) (by omega)).mono ?_
    rintro e w27 ⟨fu, cu, nu, ku, du, mu, lu, rfl, Gu, hx⟩
    replace hT := hT.below hx
    replace Gp := Gp.below hx
    replace Gl := Gl.below hx
    replace Gs := Gs.below hx
    replace Gt := Gt.below hx
    replace Vp := Vp.below hx
    replace Vl := Vl.below hx
    replace Vs := Vs.below hx
    replace Vt := Vt.below hx
    replace hb0 := bel_tr hb0 hx
    clear hx
    go_wp2_with fail
    refine (textZ (B.size : Int) _ Gu hT).mono ?_
    rintro e w28 ⟨rfl, hx⟩
    replace hT := hT.below hx
    replace Gp := Gp.below hx
    replace Gl := Gl.below hx
    replace Gs := Gs.below hx
    replace Gt := Gt.below hx
    replace Gu := Gu.below hx
    replace Vp := Vp.below hx
    replace Vl := Vl.below hx
    replace Vs := Vs.below hx
    replace Vt := Vt.below hx
    replace hb0 := bel_tr hb0 hx
    clear hx
    clear Gu
    go_wp2_with fail
    refine (parse_ng B.size _ (by omega) hT).mono ?_
    rintro e w29 ⟨fr, cr, nr, kr, dr, mr, lr, rfl, Gr, hx⟩
    replace hT := hT.below hx
    replace Gp := Gp.below hx
    replace Gl := Gl.below hx
    replace Gs := Gs.below hx
    replace Gt := Gt.below hx
    replace Vp := Vp.below hx
    replace Vl := Vl.below hx
    replace Vs := Vs.below hx
    replace Vt := Vt.below hx
    replace hb0 := bel_tr hb0 hx
    clear hx
    have hx := bel_d0 w29 (.cells #[.bool fr, .slice cr nr kr, .slice dr mr lr] 28)
    replace hT := hT.below hx
    replace Gp := Gp.below hx
    replace Gl := Gl.below hx
    replace Gs := Gs.below hx
    replace Gt := Gt.below hx
    replace Gr := Gr.below hx
    replace Vp := Vp.below hx
    replace Vl := Vl.below hx
    replace Vs := Vs.below hx
    replace Vt := Vt.below hx
    replace hb0 := bel_tr hb0 hx
    have Vr := var3_new w29 (.bool fr) (.slice cr nr kr) (.slice dr mr lr) 28
    clear hx
    obtain ⟨vlc0, vlc1, vlc2, vlc3, vlc4, vlc5⟩ := id Vl
    obtain ⟨vpc0, vpc1, vpc2, vpc3, vpc4, vpc5⟩ := id Vp
    go_wp2_with fail
    generalize w29.alloc (.cells #[.bool fr, .slice cr nr kr, .slice dr mr lr] 28) = w30 at *
    refine (mulQ _ Gl.tr Gp.tr (by omega) (by omega) (by omega) hT).mono ?_
    rintro e w31 ⟨fx, cx, nx, kx, dx, mx, lx, rfl, Gx, hx⟩
    clear vlc0 vlc1 vlc2 vlc3 vlc4 vlc5 vpc0 vpc1 vpc2 vpc3 vpc4 vpc5
    replace hT := hT.below hx
    replace Gp := Gp.below hx
    replace Gl := Gl.below hx
    replace Gs := Gs.below hx
    replace Gt := Gt.below hx
    replace Gr := Gr.below hx
    replace Vp := Vp.below hx
    replace Vl := Vl.below hx
    replace Vs := Vs.below hx
    replace Vt := Vt.below hx
    replace Vr := Vr.below hx
    replace hb0 := bel_tr hb0 hx
    clear hx
    have hx := bel_d0 w31 (.cells #[.bool fx, .slice cx nx kx, .slice dx mx lx] 28)
    replace hT := hT.below hx
    replace Gp := Gp.below hx
    replace Gl := Gl.below hx
    replace Gs := Gs.below hx
    replace Gt := Gt.below hx
    replace Gr := Gr.below hx
    replace Gx := Gx.below hx
    replace Vp := Vp.below hx
    replace Vl := Vl.below hx
    replace Vs := Vs.below hx
    replace Vt := Vt.below hx
    replace Vr := Vr.below hx
    replace hb0 := bel_tr hb0 hx
    have Vx := var3_new w31 (.bool fx) (.slice cx nx kx) (.slice dx mx lx) 28
    clear hx
    obtain ⟨vlc0, vlc1, vlc2, vlc3, vlc4, vlc5⟩ := id Vl
    obtain ⟨vrc0, vrc1, vrc2, vrc3, vrc4, vrc5⟩ := id Vr
    go_wp2_with fail
    generalize w31.alloc (.cells #[.bool fx, .slice cx nx kx, .slice dx mx lx] 28) = w32 at *
    refine (mulQ _ Gl.tr Gr.tr (by omega) (by omega) (by omega) hT).mono ?_
    rintro e w33 ⟨fy, cy, ny, ky, dy, my, ly, rfl, Gy, hx⟩
    clear vlc0 vlc1 vlc2 vlc3 vlc4 vlc5 vrc0 vrc1 vrc2 vrc3 vrc4 vrc5
    replace hT := hT.below hx
    replace Gp := Gp.below hx
    replace Gl := Gl.below hx
    replace Gs := Gs.below hx
    replace Gt := Gt.below hx
    replace Gr := Gr.below hx
    replace Gx := Gx.below hx
    replace Vp := Vp.below hx
    replace Vl := Vl.below hx
    replace Vs := Vs.below hx
    replace Vt := Vt.below hx
    replace Vr := Vr.below hx
    replace Vx := Vx.below hx
    replace hb0 := bel_tr hb0 hx
    clear hx
    have hx := bel_d0 w33 (.cells #[.bool fy, .slice cy ny ky, .slice dy my ly] 28)
    replace hT := hT.below hx
    replace Gp := Gp.below hx
    replace Gl := Gl.below hx
    replace Gs := Gs.below hx
    replace Gt := Gt.below hx
    replace Gr := Gr.below hx
    replace Gx := Gx.below hx
    replace Gy := Gy.below hx
    replace Vp := Vp.below hx
    replace Vl := Vl.below hx
    replace Vs := Vs.below hx
    replace Vt := Vt.below hx
    replace Vr := Vr.below hx
    replace Vx := Vx.below hx
    replace hb0 := bel_tr hb0 hx
    have Vy := var3_new w33 (.bool fy) (.slice cy ny ky) (.slice dy my ly) 28
    clear hx
    obtain ⟨vxc0, vxc1, vxc2, vxc3, vxc4, vxc5⟩ := id Vx
    obtain ⟨vsc0, vsc1, vsc2, vsc3, vsc4, vsc5⟩ := id Vs
    go_wp2_with fail
    generalize w33.alloc (.cells #[.bool fy, .slice cy ny ky, .slice dy my ly] 28) = w34 at *
    refine (sameQ _ Gx Gs (litV_exp V k) (by omega)).mono ?_
    rintro e w35 ⟨rfl, hx⟩
    clear vxc0 vxc1 vxc2 vxc3 vxc4 vxc5 vsc0 vsc1 vsc2 vsc3 vsc4 vsc5
    replace hT := hT.below hx
    replace Gp := Gp.below hx
    replace Gl := Gl.below hx
    replace Gs := Gs.below hx
    replace Gt := Gt.below hx
    replace Gr := Gr.below hx
    replace Gx := Gx.below hx
    replace Gy := Gy.below hx
    replace Vp := Vp.below hx
    replace Vl := Vl.below hx
    replace Vs := Vs.below hx
    replace Vt := Vt.below hx
    replace Vr := Vr.below hx
    replace Vx := Vx.below hx
    replace Vy := Vy.below hx
    replace hb0 := bel_tr hb0 hx
    clear hx
    obtain ⟨vyc0, vyc1, vyc2, vyc3, vyc4, vyc5⟩ := id Vy
    obtain ⟨vtc0, vtc1, vtc2, vtc3, vtc4, vtc5⟩ := id Vt
    go_wp2_with fail
    refine (sameQ _ Gy Gt (litV_point V B.size) (by omega)).mono ?_
    rintro e w36 ⟨rfl, hx⟩
    clear vyc0 vyc1 vyc2 vyc3 vyc4 vyc5 vtc0 vtc1 vtc2 vtc3 vtc4 vtc5
    replace hT := hT.below hx
    replace Gp := Gp.below hx
    replace Gl := Gl.below hx
    replace Gs := Gs.below hx
    replace Gt := Gt.below hx
    replace Gr := Gr.below hx
    replace Gx := Gx.below hx
    replace Gy := Gy.below hx
    replace Vp := Vp.below hx
    replace Vl := Vl.below hx
    replace Vs := Vs.below hx
    replace Vt := Vt.below hx
    replace Vr := Vr.below hx
    replace Vx := Vx.below hx
    replace Vy := Vy.below hx
    replace hb0 := bel_tr hb0 hx
    clear hx
    go_wp2
    go_ret
    exact ⟨rfl, hb0⟩
end Go.Proofs.YtdfoiklcekhmpaaGreatDoor

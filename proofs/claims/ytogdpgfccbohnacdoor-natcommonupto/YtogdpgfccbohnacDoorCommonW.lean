import Derived.Test.YtogdpgfccbohnacDoorGcdG
import Derived.Test.YtogdpgfccbohnacDoorLike
import Derived.Test.YtogdpgfccbohnacDoorPow
import Derived.Test.YtogdpgfccbohnacDoorPowVal
namespace Go.Proofs.YtogdpgfccbohnacDoor
open Go.RowKit

theorem Mine.num {w : World} {B : Nat} {a : Option Addr} {n cap x S : Nat} (h : Mine w B a n cap x S) : Num w a n cap x S := by
  rcases h with ⟨rfl, rfl⟩ | ⟨_, g, rfl, h⟩
  · exact ⟨[], rfl, Nat.zero_le _, .inl rfl, AllW.nil, rfl, Nat.zero_le _⟩
  · exact h.num
theorem bitsP {a : Option Addr} {na ca : Nat} {x : Int} {S : Nat} (w : World) (ha : Num w a na ca x S) (hS : S ≤ 100000000) (hx : 0 < x) :
    Calls Tryd.prog 8 #[.slice a na ca] w fun e w' => ∃ n : Int, e = .returned (.int .i64 n) ∧ 0 < n ∧ w = w' := by
  obtain ⟨xs, a1, a2, a3, a4, a5, a6⟩ := ha
  have h1 := val_bits a4
  have h2 := (bits_nn xs a4 (by omega)).1
  have h3 : 0 < bitsL xs := by
    rcases (by omega : bitsL xs = 0 ∨ 0 < bitsL xs) with h | h
    · rw [h] at h1; simp at h1; omega
    · exact h
  refine (bits_any a na ca xs w a1 a2 (by omega) a3 a4).mono ?_
  rintro e w' ⟨rfl, rfl⟩
  exact ⟨_, rfl, h3, rfl⟩
theorem below_alloc (w : World) (o : Obj) : Below w.heap.size w (w.alloc o) := (Below.refl _ _).alloc (Nat.le_refl _) _
theorem tab_up {w w' : World} {g : Nat} {tab : List Nat} (h : TabAt g tab w) (hg : g < w.heap.size) (hb : Below w.heap.size w w') : TabAt g tab w' := tab_below h hb hg
theorem gcd2_any {a b : Option Addr} {na nb ca cb : Nat} {x y R : Nat} (w : World) (ha : Num w a na ca x R) (hb : Num w b nb cb y R) (hR : R ≤ 8000000) (hT : TabAt 6 Lib.deBruijn64tab w) (hgt : 6 < w.heap.size) :
    Calls Tryd.prog 18 #[.slice (some ⟨w.heap.size, 0, none⟩) 2 2] (w.alloc (.cells #[Value.slice a na ca, .slice b nb cb] 23)) fun e w' => ∃ c n cc, e = .returned (.slice c n cc) ∧ Num w' c n cc (Nat.gcd x y : Nat) (R + 2) ∧ Below w.heap.size w w' := by
  have hbA := below_alloc w (.cells #[Value.slice a na ca, .slice b nb cb] 23)
  refine (gcdL_any w.heap.size 2 2 (fun j => if j = 0 then a else b) (fun j => if j = 0 then na else nb) (fun j => if j = 0 then ca else cb) (fun j => if j = 0 then x else y) R _ ?_ ?_ (by omega) hR (tab_up hT hgt hbA) (by have := hbA.size; omega)).mono ?_
  · intro j hj
    rcases (by omega : j = 0 ∨ j = 1) with h | h <;> subst h <;> simp
  · intro j hj
    rcases (by omega : j = 0 ∨ j = 1) with h | h <;> subst h
    · exact ha.below hbA
    · exact hb.below hbA
  · rintro e w' ⟨c, n, cc, rfl, hM, hb'⟩
    refine ⟨c, n, cc, rfl, ?_, hbA.trans (hb'.mono hbA.size)⟩
    have e : gcdN (fun j => if j = 0 then x else y) 2 = Nat.gcd x y := by simp [gcdN]
    rw [e] at hM
    exact hM.num
theorem gcd3_any {a b d : Option Addr} {na nb nd ca cb cd : Nat} {x y z R : Nat} (w : World) (ha : Num w a na ca x R) (hb : Num w b nb cb y R) (hd : Num w d nd cd z R) (hR : R ≤ 8000000) (hT : TabAt 6 Lib.deBruijn64tab w) (hgt : 6 < w.heap.size) :
    Calls Tryd.prog 18 #[.slice (some ⟨w.heap.size, 0, none⟩) 3 3] (w.alloc (.cells #[Value.slice a na ca, .slice b nb cb, .slice d nd cd] 23)) fun e w' => ∃ c n cc, e = .returned (.slice c n cc) ∧ Num w' c n cc (Nat.gcd (Nat.gcd x y) z : Nat) (R + 2) ∧ Below w.heap.size w w' := by
  have hbA := below_alloc w (.cells #[Value.slice a na ca, .slice b nb cb, .slice d nd cd] 23)
  refine (gcdL_any w.heap.size 3 3 (fun j => if j = 0 then a else if j = 1 then b else d) (fun j => if j = 0 then na else if j = 1 then nb else nd) (fun j => if j = 0 then ca else if j = 1 then cb else cd) (fun j => if j = 0 then x else if j = 1 then y else z) R _ ?_ ?_ (by omega) hR (tab_up hT hgt hbA) (by have := hbA.size; omega)).mono ?_
  · intro j hj
    rcases (by omega : j = 0 ∨ j = 1 ∨ j = 2) with h | h | h <;> subst h <;> simp
  · intro j hj
    rcases (by omega : j = 0 ∨ j = 1 ∨ j = 2) with h | h | h <;> subst h
    · exact ha.below hbA
    · exact hb.below hbA
    · exact hd.below hbA
  · rintro e w' ⟨c, n, cc, rfl, hM, hb'⟩
    refine ⟨c, n, cc, rfl, ?_, hbA.trans (hb'.mono hbA.size)⟩
    have e : gcdN (fun j => if j = 0 then x else if j = 1 then y else z) 3 = Nat.gcd (Nat.gcd x y) z := by simp [gcdN]
    rw [e] at hM
    exact hM.num
theorem Num.more {w : World} {a : Option Addr} {n cap : Nat} {x : Int} {S R : Nat} (h : Num w a n cap x S) (hS : S ≤ R) : Num w a n cap x R := by
  obtain ⟨xs, h1, h2, h3, h4, h5, h6⟩ := h
  exact ⟨xs, h1, h2, h3, h4, h5, by omega⟩
theorem gcd_cop {x y : Nat} (h : 0 < Nat.gcd x y) : Nat.gcd (x / Nat.gcd x y) (y / Nat.gcd x y) = 1 := by
  have h1 := Nat.gcd_div (Nat.gcd_dvd_left x y) (Nat.gcd_dvd_right x y)
  rw [h1, Nat.div_self h]

/-- The table, and where it lies. -/
def Tabs (w : World) : Prop := TabAt 6 Lib.deBruijn64tab w ∧ 6 < w.heap.size
theorem Tabs.mk {w : World} (h : TabAt 6 Lib.deBruijn64tab w) (hg : 6 < w.heap.size) : Tabs w := ⟨h, hg⟩
theorem Tabs.below {w w' : World} (h : Tabs w) (hb : Below w.heap.size w w') : Tabs w' := ⟨tab_up h.1 h.2 hb, Nat.lt_of_lt_of_le h.2 hb.size⟩

set_option maxRecDepth 100000 in
set_option maxHeartbeats 4000000 in
theorem common_zero (a b c : Option Addr) (na nb nc ca cb cc : Nat) (A B C : Nat) (w : World) (NA : Num w a na ca (A : Int) 1048576) (NB : Num w b nb cb (B : Int) 1048576) (NC : Num w c nc cc (C : Int) 1048576) (hT : TabAt 6 Lib.deBruijn64tab w) (hgt : 6 < w.heap.size) (X Y : Nat) (HX : Hid ((A : Int) * (C : Int) = (X : Int))) (HY : Hid ((B : Int) * (C : Int) = (Y : Int))) (HG : Hid (Nat.gcd X Y = 0)) (HX0 : Hid ((X : Int) = 0)) (HY0 : Hid ((Y : Int) = 0)) :
    Calls Tryd.prog 4 #[.slice a na ca, .slice b nb cb, .slice c nc cc] w fun e w' => e = .returned (.bool true) ∧ Below w.heap.size w w' := by
  have HT : Below w.heap.size w w := Below.refl _ _
  have HTB := Tabs.mk hT hgt
  clear hT hgt
  go_enter Tryd.func4, Tryd.ntmps4
  go_wp2_with fail
  refine (awake_any _).mono ?_
  rintro e w1 ⟨rfl, hb⟩
  replace NA := NA.below hb
  replace NB := NB.below hb
  replace NC := NC.below hb
  replace HTB := HTB.below hb
  have hs1 := hb.size
  replace HT := bel_tr HT hb
  clear hb
  go_wp2_with fail
  refine (mulG _ NA NC (by omega) (by omega)).mono ?_
  rintro e w2 ⟨x1, x2, x3, rfl, GX, hb⟩
  replace NA := NA.below hb
  replace NB := NB.below hb
  replace NC := NC.below hb
  replace HTB := HTB.below hb
  have hs2 := hb.size
  replace HT := bel_tr HT hb
  clear hb
  have NX := (GX.num.more (R := 3000000) (by omega))
  rw [HX.out] at NX
  clear GX
  go_wp2_with fail
  refine (mulG _ NB NC (by omega) (by omega)).mono ?_
  rintro e w3 ⟨y1, y2, y3, rfl, GY, hb⟩
  replace NA := NA.below hb
  replace NB := NB.below hb
  replace NC := NC.below hb
  replace HTB := HTB.below hb
  replace NX := NX.below hb
  have hs3 := hb.size
  replace HT := bel_tr HT hb
  clear hb
  have NY := (GY.num.more (R := 3000000) (by omega))
  rw [HY.out] at NY
  clear GY
  go_wp2_with fail
  refine (gcd2_any _ NX NY (by omega) HTB.1 HTB.2).mono ?_
  rintro e w4 ⟨g1, g2, g3, rfl, NG, hb⟩
  replace NA := NA.below hb
  replace NB := NB.below hb
  replace NC := NC.below hb
  replace HTB := HTB.below hb
  replace NX := NX.below hb
  replace NY := NY.below hb
  have hs4 := hb.size
  replace HT := bel_tr HT hb
  clear hb
  rw [HG.out] at NG
  go_wp2_with fail
  refine (bitsV0 _ NG (by omega) rfl).mono ?_
  rintro e wsame ⟨rfl, rfl⟩
  go_wp2_with fail
  refine (bitsV0 _ NX (by omega) HX0.out).mono ?_
  rintro e wsame ⟨rfl, rfl⟩
  go_wp2_with fail
  refine (bitsV0 _ NY (by omega) HY0.out).mono ?_
  rintro e wsame ⟨rfl, rfl⟩
  clear NA NB NC NX NY NG
  go_wp2
  go_ret
  exact ⟨rfl, HT⟩

set_option maxRecDepth 100000 in
set_option maxHeartbeats 4000000 in
theorem common_c0 (a b c : Option Addr) (na nb nc ca cb cc : Nat) (A B C : Nat) (w : World) (NA : Num w a na ca (A : Int) 1048576) (NB : Num w b nb cb (B : Int) 1048576) (NC : Num w c nc cc (C : Int) 1048576) (hT : TabAt 6 Lib.deBruijn64tab w) (hgt : 6 < w.heap.size) (X Y G : Nat) (HX : Hid ((A : Int) * (C : Int) = (X : Int))) (HY : Hid ((B : Int) * (C : Int) = (Y : Int))) (HG : Hid (Nat.gcd X Y = G)) (hG : 0 < G) (P Q : Nat) (HP : Hid ((X : Int) / (G : Int) = (P : Int))) (HQ : Hid ((Y : Int) / (G : Int) = (Q : Int))) (HR : Hid ((X : Int) % (G : Int) = 0)) (HS : Hid ((Y : Int) % (G : Int) = 0)) (H1 : Hid (Nat.gcd P Q = 1)) (H2 : Hid (Nat.gcd Y X = G)) (H3 : Hid (Nat.gcd (Nat.gcd Y G) X = G)) (HC0 : Hid ((C : Int) = 0)) :
    Calls Tryd.prog 4 #[.slice a na ca, .slice b nb cb, .slice c nc cc] w fun e w' => e = .returned (.bool true) ∧ Below w.heap.size w w' := by
  have HT : Below w.heap.size w w := Below.refl _ _
  have HTB := Tabs.mk hT hgt
  clear hT hgt
  go_enter Tryd.func4, Tryd.ntmps4
  go_wp2_with fail
  refine (awake_any _).mono ?_
  rintro e w1 ⟨rfl, hb⟩
  replace NA := NA.below hb
  replace NB := NB.below hb
  replace NC := NC.below hb
  replace HTB := HTB.below hb
  have hs1 := hb.size
  replace HT := bel_tr HT hb
  clear hb
  go_wp2_with fail
  refine (mulG _ NA NC (by omega) (by omega)).mono ?_
  rintro e w2 ⟨x1, x2, x3, rfl, GX, hb⟩
  replace NA := NA.below hb
  replace NB := NB.below hb
  replace NC := NC.below hb
  replace HTB := HTB.below hb
  have hs2 := hb.size
  replace HT := bel_tr HT hb
  clear hb
  have NX := (GX.num.more (R := 3000000) (by omega))
  rw [HX.out] at NX
  clear GX
  go_wp2_with fail
  refine (mulG _ NB NC (by omega) (by omega)).mono ?_
  rintro e w3 ⟨y1, y2, y3, rfl, GY, hb⟩
  replace NA := NA.below hb
  replace NB := NB.below hb
  replace NC := NC.below hb
  replace HTB := HTB.below hb
  replace NX := NX.below hb
  have hs3 := hb.size
  replace HT := bel_tr HT hb
  clear hb
  have NY := (GY.num.more (R := 3000000) (by omega))
  rw [HY.out] at NY
  clear GY
  go_wp2_with fail
  refine (gcd2_any _ NX NY (by omega) HTB.1 HTB.2).mono ?_
  rintro e w4 ⟨g1, g2, g3, rfl, NG, hb⟩
  replace NA := NA.below hb
  replace NB := NB.below hb
  replace NC := NC.below hb
  replace HTB := HTB.below hb
  replace NX := NX.below hb
  replace NY := NY.below hb
  have hs4 := hb.size
  replace HT := bel_tr HT hb
  clear hb
  rw [HG.out] at NG
  have hGi : (0 : Int) < (G : Int) := by omega
  go_wp2_with fail
  refine (bitsP _ NG (by omega) hGi).mono ?_
  rintro e wsame ⟨nb1, rfl, hnb1, rfl⟩
  have hnz : (nb1 == 0) = false := beq_eq_false_iff_ne.2 (by omega)
  go_wp2_with fail
  refine (divG _ NX NG (by omega) (by omega) hGi).mono ?_
  rintro e w5 ⟨p1, p2, p3, r1, r2, r3, rfl, GP, GR, _, hb⟩
  replace NA := NA.below hb
  replace NB := NB.below hb
  replace NC := NC.below hb
  replace HTB := HTB.below hb
  replace NX := NX.below hb
  replace NY := NY.below hb
  replace NG := NG.below hb
  have hs5 := hb.size
  replace HT := bel_tr HT hb
  clear hb
  have NP := GP.num.more (R := 4000000) (by omega)
  have NR := GR.num.more (R := 4000000) (by omega)
  rw [HP.out] at NP
  rw [HR.out] at NR
  clear GP GR
  go_wp2_with fail
  refine (divG _ NY NG (by omega) (by omega) hGi).mono ?_
  rintro e w6 ⟨q1, q2, q3, s1, s2, s3, rfl, GQ, GS, _, hb⟩
  replace NA := NA.below hb
  replace NB := NB.below hb
  replace NC := NC.below hb
  replace HTB := HTB.below hb
  replace NX := NX.below hb
  replace NY := NY.below hb
  replace NG := NG.below hb
  replace NP := NP.below hb
  replace NR := NR.below hb
  have hs6 := hb.size
  replace HT := bel_tr HT hb
  clear hb
  have NQ := GQ.num.more (R := 4000000) (by omega)
  have NS := GS.num.more (R := 4000000) (by omega)
  rw [HQ.out] at NQ
  rw [HS.out] at NS
  clear GQ GS
  go_wp2_with fail
  refine (bitsV0 _ NR (by omega) rfl).mono ?_
  rintro e wsame ⟨rfl, rfl⟩
  go_wp2_with fail
  refine (bitsV0 _ NS (by omega) rfl).mono ?_
  rintro e wsame ⟨rfl, rfl⟩
  clear NR NS
  go_wp2_with fail
  refine (gcd2_any _ NP NQ (by omega) HTB.1 HTB.2).mono ?_
  rintro e w7 ⟨t1, t2, t3, rfl, NT, hb⟩
  replace NA := NA.below hb
  replace NB := NB.below hb
  replace NC := NC.below hb
  replace HTB := HTB.below hb
  replace NX := NX.below hb
  replace NY := NY.below hb
  replace NG := NG.below hb
  replace NP := NP.below hb
  replace NQ := NQ.below hb
  have hs7 := hb.size
  replace HT := bel_tr HT hb
  clear hb
  rw [H1.out] at NT
  clear NP NQ
  go_wp2_with fail
  refine (ofG 1 _ (by omega) (by omega)).mono ?_
  rintro e w8 ⟨o1, o2, o3, rfl, GO, hb⟩
  replace NA := NA.below hb
  replace NB := NB.below hb
  replace NC := NC.below hb
  replace HTB := HTB.below hb
  replace NX := NX.below hb
  replace NY := NY.below hb
  replace NG := NG.below hb
  replace NT := NT.below hb
  have hs8 := hb.size
  replace HT := bel_tr HT hb
  clear hb
  have NO := GO.num
  clear GO
  go_wp2_with fail
  refine (likeV _ NT NO (by omega) (by omega) rfl).mono ?_
  rintro e w9 ⟨rfl, hb⟩
  replace NA := NA.below hb
  replace NB := NB.below hb
  replace NC := NC.below hb
  replace HTB := HTB.below hb
  replace NX := NX.below hb
  replace NY := NY.below hb
  replace NG := NG.below hb
  replace NT := NT.below hb
  replace NO := NO.below hb
  have hs9 := hb.size
  replace HT := bel_tr HT hb
  clear hb
  clear NT NO
  go_wp2_with fail
  refine (gcd2_any _ NY NX (by omega) HTB.1 HTB.2).mono ?_
  rintro e w10 ⟨u1, u2, u3, rfl, NU, hb⟩
  replace NA := NA.below hb
  replace NB := NB.below hb
  replace NC := NC.below hb
  replace HTB := HTB.below hb
  replace NX := NX.below hb
  replace NY := NY.below hb
  replace NG := NG.below hb
  have hs10 := hb.size
  replace HT := bel_tr HT hb
  clear hb
  rw [H2.out] at NU
  go_wp2_with fail
  refine (likeV _ NU NG (by omega) (by omega) rfl).mono ?_
  rintro e w11 ⟨rfl, hb⟩
  replace NA := NA.below hb
  replace NB := NB.below hb
  replace NC := NC.below hb
  replace HTB := HTB.below hb
  replace NX := NX.below hb
  replace NY := NY.below hb
  replace NG := NG.below hb
  replace NU := NU.below hb
  have hs11 := hb.size
  replace HT := bel_tr HT hb
  clear hb
  clear NU
  go_wp2_with fail
  refine (gcd3_any _ (NY.more (R := 4000000) (by omega)) (NG.more (R := 4000000) (by omega)) (NX.more (R := 4000000) (by omega)) (by omega) HTB.1 HTB.2).mono ?_
  rintro e w12 ⟨v1, v2, v3, rfl, NV, hb⟩
  replace NA := NA.below hb
  replace NB := NB.below hb
  replace NC := NC.below hb
  replace HTB := HTB.below hb
  replace NX := NX.below hb
  replace NY := NY.below hb
  replace NG := NG.below hb
  have hs12 := hb.size
  replace HT := bel_tr HT hb
  clear hb
  rw [H3.out] at NV
  go_wp2_with fail
  refine (likeV _ NV NG (by omega) (by omega) rfl).mono ?_
  rintro e w13 ⟨rfl, hb⟩
  replace NA := NA.below hb
  replace NB := NB.below hb
  replace NC := NC.below hb
  replace HTB := HTB.below hb
  replace NX := NX.below hb
  replace NY := NY.below hb
  replace NG := NG.below hb
  replace NV := NV.below hb
  have hs13 := hb.size
  replace HT := bel_tr HT hb
  clear hb
  clear NV NX NY
  go_wp2_with fail
  refine (bitsV0 _ NC (by omega) HC0.out).mono ?_
  rintro e wsame ⟨rfl, rfl⟩
  clear NA NB NC NG
  go_wp2
  go_ret
  exact ⟨rfl, HT⟩

set_option maxRecDepth 100000 in
set_option maxHeartbeats 4000000 in
theorem common_cp (a b c : Option Addr) (na nb nc ca cb cc : Nat) (A B C : Nat) (w : World) (NA : Num w a na ca (A : Int) 1048576) (NB : Num w b nb cb (B : Int) 1048576) (NC : Num w c nc cc (C : Int) 1048576) (hT : TabAt 6 Lib.deBruijn64tab w) (hgt : 6 < w.heap.size) (X Y G : Nat) (HX : Hid ((A : Int) * (C : Int) = (X : Int))) (HY : Hid ((B : Int) * (C : Int) = (Y : Int))) (HG : Hid (Nat.gcd X Y = G)) (hG : 0 < G) (P Q : Nat) (HP : Hid ((X : Int) / (G : Int) = (P : Int))) (HQ : Hid ((Y : Int) / (G : Int) = (Q : Int))) (HR : Hid ((X : Int) % (G : Int) = 0)) (HS : Hid ((Y : Int) % (G : Int) = 0)) (H1 : Hid (Nat.gcd P Q = 1)) (H2 : Hid (Nat.gcd Y X = G)) (H3 : Hid (Nat.gcd (Nat.gcd Y G) X = G)) (HCP : Hid (0 < (C : Int))) (H4 : Hid ((G : Int) % (C : Int) = 0)) :
    Calls Tryd.prog 4 #[.slice a na ca, .slice b nb cb, .slice c nc cc] w fun e w' => e = .returned (.bool true) ∧ Below w.heap.size w w' := by
  have HT : Below w.heap.size w w := Below.refl _ _
  have HTB := Tabs.mk hT hgt
  clear hT hgt
  go_enter Tryd.func4, Tryd.ntmps4
  go_wp2_with fail
  refine (awake_any _).mono ?_
  rintro e w1 ⟨rfl, hb⟩
  replace NA := NA.below hb
  replace NB := NB.below hb
  replace NC := NC.below hb
  replace HTB := HTB.below hb
  have hs1 := hb.size
  replace HT := bel_tr HT hb
  clear hb
  go_wp2_with fail
  refine (mulG _ NA NC (by omega) (by omega)).mono ?_
  rintro e w2 ⟨x1, x2, x3, rfl, GX, hb⟩
  replace NA := NA.below hb
  replace NB := NB.below hb
  replace NC := NC.below hb
  replace HTB := HTB.below hb
  have hs2 := hb.size
  replace HT := bel_tr HT hb
  clear hb
  have NX := (GX.num.more (R := 3000000) (by omega))
  rw [HX.out] at NX
  clear GX
  go_wp2_with fail
  refine (mulG _ NB NC (by omega) (by omega)).mono ?_
  rintro e w3 ⟨y1, y2, y3, rfl, GY, hb⟩
  replace NA := NA.below hb
  replace NB := NB.below hb
  replace NC := NC.below hb
  replace HTB := HTB.below hb
  replace NX := NX.below hb
  have hs3 := hb.size
  replace HT := bel_tr HT hb
  clear hb
  have NY := (GY.num.more (R := 3000000) (by omega))
  rw [HY.out] at NY
  clear GY
  go_wp2_with fail
  refine (gcd2_any _ NX NY (by omega) HTB.1 HTB.2).mono ?_
  rintro e w4 ⟨g1, g2, g3, rfl, NG, hb⟩
  replace NA := NA.below hb
  replace NB := NB.below hb
  replace NC := NC.below hb
  replace HTB := HTB.below hb
  replace NX := NX.below hb
  replace NY := NY.below hb
  have hs4 := hb.size
  replace HT := bel_tr HT hb
  clear hb
  rw [HG.out] at NG
  have hGi : (0 : Int) < (G : Int) := by omega
  go_wp2_with fail
  refine (bitsP _ NG (by omega) hGi).mono ?_
  rintro e wsame ⟨nb1, rfl, hnb1, rfl⟩
  have hnz : (nb1 == 0) = false := beq_eq_false_iff_ne.2 (by omega)
  go_wp2_with fail
  refine (divG _ NX NG (by omega) (by omega) hGi).mono ?_
  rintro e w5 ⟨p1, p2, p3, r1, r2, r3, rfl, GP, GR, _, hb⟩
  replace NA := NA.below hb
  replace NB := NB.below hb
  replace NC := NC.below hb
  replace HTB := HTB.below hb
  replace NX := NX.below hb
  replace NY := NY.below hb
  replace NG := NG.below hb
  have hs5 := hb.size
  replace HT := bel_tr HT hb
  clear hb
  have NP := GP.num.more (R := 4000000) (by omega)
  have NR := GR.num.more (R := 4000000) (by omega)
  rw [HP.out] at NP
  rw [HR.out] at NR
  clear GP GR
  go_wp2_with fail
  refine (divG _ NY NG (by omega) (by omega) hGi).mono ?_
  rintro e w6 ⟨q1, q2, q3, s1, s2, s3, rfl, GQ, GS, _, hb⟩
  replace NA := NA.below hb
  replace NB := NB.below hb
  replace NC := NC.below hb
  replace HTB := HTB.below hb
  replace NX := NX.below hb
  replace NY := NY.below hb
  replace NG := NG.below hb
  replace NP := NP.below hb
  replace NR := NR.below hb
  have hs6 := hb.size
  replace HT := bel_tr HT hb
  clear hb
  have NQ := GQ.num.more (R := 4000000) (by omega)
  have NS := GS.num.more (R := 4000000) (by omega)
  rw [HQ.out] at NQ
  rw [HS.out] at NS
  clear GQ GS
  go_wp2_with fail
  refine (bitsV0 _ NR (by omega) rfl).mono ?_
  rintro e wsame ⟨rfl, rfl⟩
  go_wp2_with fail
  refine (bitsV0 _ NS (by omega) rfl).mono ?_
  rintro e wsame ⟨rfl, rfl⟩
  clear NR NS
  go_wp2_with fail
  refine (gcd2_any _ NP NQ (by omega) HTB.1 HTB.2).mono ?_
  rintro e w7 ⟨t1, t2, t3, rfl, NT, hb⟩
  replace NA := NA.below hb
  replace NB := NB.below hb
  replace NC := NC.below hb
  replace HTB := HTB.below hb
  replace NX := NX.below hb
  replace NY := NY.below hb
  replace NG := NG.below hb
  replace NP := NP.below hb
  replace NQ := NQ.below hb
  have hs7 := hb.size
  replace HT := bel_tr HT hb
  clear hb
  rw [H1.out] at NT
  clear NP NQ
  go_wp2_with fail
  refine (ofG 1 _ (by omega) (by omega)).mono ?_
  rintro e w8 ⟨o1, o2, o3, rfl, GO, hb⟩
  replace NA := NA.below hb
  replace NB := NB.below hb
  replace NC := NC.below hb
  replace HTB := HTB.below hb
  replace NX := NX.below hb
  replace NY := NY.below hb
  replace NG := NG.below hb
  replace NT := NT.below hb
  have hs8 := hb.size
  replace HT := bel_tr HT hb
  clear hb
  have NO := GO.num
  clear GO
  go_wp2_with fail
  refine (likeV _ NT NO (by omega) (by omega) rfl).mono ?_
  rintro e w9 ⟨rfl, hb⟩
  replace NA := NA.below hb
  replace NB := NB.below hb
  replace NC := NC.below hb
  replace HTB := HTB.below hb
  replace NX := NX.below hb
  replace NY := NY.below hb
  replace NG := NG.below hb
  replace NT := NT.below hb
  replace NO := NO.below hb
  have hs9 := hb.size
  replace HT := bel_tr HT hb
  clear hb
  clear NT NO
  go_wp2_with fail
  refine (gcd2_any _ NY NX (by omega) HTB.1 HTB.2).mono ?_
  rintro e w10 ⟨u1, u2, u3, rfl, NU, hb⟩
  replace NA := NA.below hb
  replace NB := NB.below hb
  replace NC := NC.below hb
  replace HTB := HTB.below hb
  replace NX := NX.below hb
  replace NY := NY.below hb
  replace NG := NG.below hb
  have hs10 := hb.size
  replace HT := bel_tr HT hb
  clear hb
  rw [H2.out] at NU
  go_wp2_with fail
  refine (likeV _ NU NG (by omega) (by omega) rfl).mono ?_
  rintro e w11 ⟨rfl, hb⟩
  replace NA := NA.below hb
  replace NB := NB.below hb
  replace NC := NC.below hb
  replace HTB := HTB.below hb
  replace NX := NX.below hb
  replace NY := NY.below hb
  replace NG := NG.below hb
  replace NU := NU.below hb
  have hs11 := hb.size
  replace HT := bel_tr HT hb
  clear hb
  clear NU
  go_wp2_with fail
  refine (gcd3_any _ (NY.more (R := 4000000) (by omega)) (NG.more (R := 4000000) (by omega)) (NX.more (R := 4000000) (by omega)) (by omega) HTB.1 HTB.2).mono ?_
  rintro e w12 ⟨v1, v2, v3, rfl, NV, hb⟩
  replace NA := NA.below hb
  replace NB := NB.below hb
  replace NC := NC.below hb
  replace HTB := HTB.below hb
  replace NX := NX.below hb
  replace NY := NY.below hb
  replace NG := NG.below hb
  have hs12 := hb.size
  replace HT := bel_tr HT hb
  clear hb
  rw [H3.out] at NV
  go_wp2_with fail
  refine (likeV _ NV NG (by omega) (by omega) rfl).mono ?_
  rintro e w13 ⟨rfl, hb⟩
  replace NA := NA.below hb
  replace NB := NB.below hb
  replace NC := NC.below hb
  replace HTB := HTB.below hb
  replace NX := NX.below hb
  replace NY := NY.below hb
  replace NG := NG.below hb
  replace NV := NV.below hb
  have hs13 := hb.size
  replace HT := bel_tr HT hb
  clear hb
  clear NV NX NY
  go_wp2_with fail
  refine (bitsP _ NC (by omega) HCP.out).mono ?_
  rintro e wsame ⟨nb2, rfl, hnb2, rfl⟩
  go_wp2_with fail
  refine (divG _ NG NC (by omega) (by omega) HCP.out).mono ?_
  rintro e w14 ⟨k1, k2, k3, l1, l2, l3, rfl, _, GL, _, hb⟩
  replace NA := NA.below hb
  replace NB := NB.below hb
  replace NC := NC.below hb
  replace HTB := HTB.below hb
  replace NG := NG.below hb
  have hs14 := hb.size
  replace HT := bel_tr HT hb
  clear hb
  have NL := GL.num
  rw [H4.out] at NL
  clear GL
  go_wp2_with fail
  refine (bitsV0 _ NL (by omega) rfl).mono ?_
  rintro e wsame ⟨rfl, rfl⟩
  clear NA NB NC NG NL
  go_wp2
  go_ret
  exact ⟨rfl, HT⟩

theorem common_walk (a b c : Option Addr) (na nb nc ca cb cc : Nat) (xs ys zs : List Int) (w : World) (ha : na = xs.length) (hb : nb = ys.length) (hc : nc = zs.length) (la : na ≤ ca) (lb : nb ≤ cb) (lc : nc ≤ cc) (ma : na ≤ 1048576) (mb : nb ≤ 1048576) (mc : nc ≤ 1048576) (ra : Reads w a xs) (rb : Reads w b ys) (rc : Reads w c zs) (wa : AllW xs) (wb : AllW ys) (wc : AllW zs) (hT : TabAt 6 Lib.deBruijn64tab w) (hgt : 6 < w.heap.size) :
    Calls Tryd.prog 4 #[.slice a na ca, .slice b nb cb, .slice c nc cc] w fun e w' => e = .returned (.bool true) ∧ Below w.heap.size w w' := by
  obtain ⟨A, hA⟩ := Int.eq_ofNat_of_zero_le (val_nn wa)
  obtain ⟨B, hB⟩ := Int.eq_ofNat_of_zero_le (val_nn wb)
  obtain ⟨C, hC⟩ := Int.eq_ofNat_of_zero_le (val_nn wc)
  have NA : Num w a na ca (A : Int) 1048576 := ⟨xs, ha, la, ra, wa, hA, ma⟩
  have NB : Num w b nb cb (B : Int) 1048576 := ⟨ys, hb, lb, rb, wb, hB, mb⟩
  have NC : Num w c nc cc (C : Int) 1048576 := ⟨zs, hc, lc, rc, wc, hC, mc⟩
  have HX : Hid ((A : Int) * (C : Int) = ((A * C : Nat) : Int)) := (Int.natCast_mul A C).symm
  have HY : Hid ((B : Int) * (C : Int) = ((B * C : Nat) : Int)) := (Int.natCast_mul B C).symm
  rcases Nat.eq_zero_or_pos (Nat.gcd (A * C) (B * C)) with h | h
  · have h1 := Nat.eq_zero_of_gcd_eq_zero_left h
    have h2 := Nat.eq_zero_of_gcd_eq_zero_right h
    exact common_zero a b c na nb nc ca cb cc A B C w NA NB NC hT hgt (A * C) (B * C) HX HY h (by show _ = _; rw [h1]; rfl) (by show _ = _; rw [h2]; rfl)
  · have d1 := Nat.gcd_dvd_left (A * C) (B * C)
    have d2 := Nat.gcd_dvd_right (A * C) (B * C)
    have h3 := gcd_cop h
    have d3 : C ∣ Nat.gcd (A * C) (B * C) := Nat.dvd_gcd (Nat.dvd_mul_left C A) (Nat.dvd_mul_left C B)
    generalize A * C = X at *
    generalize B * C = Y at *
    have hH2 : Nat.gcd Y X = Nat.gcd X Y := Nat.gcd_comm Y X
    have hH3 : Nat.gcd (Nat.gcd Y (Nat.gcd X Y)) X = Nat.gcd X Y := by
      rw [Nat.gcd_eq_right d2, Nat.gcd_eq_left d1]
    obtain ⟨G, hG⟩ : ∃ G, Nat.gcd X Y = G := ⟨_, rfl⟩
    rw [hG] at h d1 d2 d3 h3 hH2 hH3
    have HP : Hid ((X : Int) / (G : Int) = ((X / G : Nat) : Int)) := (Int.natCast_ediv X G).symm
    have HQ : Hid ((Y : Int) / (G : Int) = ((Y / G : Nat) : Int)) := (Int.natCast_ediv Y G).symm
    have HR : Hid ((X : Int) % (G : Int) = 0) := by show _ = _; rw [← Int.natCast_emod, Nat.mod_eq_zero_of_dvd d1]; rfl
    have HS : Hid ((Y : Int) % (G : Int) = 0) := by show _ = _; rw [← Int.natCast_emod, Nat.mod_eq_zero_of_dvd d2]; rfl
    rcases Nat.eq_zero_or_pos C with hc0 | hc0
    · exact common_c0 a b c na nb nc ca cb cc A B C w NA NB NC hT hgt X Y G HX HY hG h (X / G) (Y / G) HP HQ HR HS h3 hH2 hH3 (by show _ = _; rw [hc0]; rfl)
    · exact common_cp a b c na nb nc ca cb cc A B C w NA NB NC hT hgt X Y G HX HY hG h (X / G) (Y / G) HP HQ HR HS h3 hH2 hH3 (by show (0 : Int) < (C : Int); omega) (by show _ = _; rw [← Int.natCast_emod, Nat.mod_eq_zero_of_dvd d3]; rfl)
end Go.Proofs.YtogdpgfccbohnacDoor

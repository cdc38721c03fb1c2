import Derived.Test.YtkgnbcbcgnlodaaGreatDoorDuP
namespace Go.Proofs.YtkgnbcbcgnlodaaGreatDoor
open Go.RowKit

theorem TO.off {w w' : World} {B R : Nat} {P : Prob} {v : Value} {cs : Array Value} (h : TO w B P v) (hr : Rw 31 w R cs) (o : Off R w w') : TO w' B P v := by
  obtain ⟨f, c, n, k, c', n', k', va, vc, ra, rc, E, F, e, g, s1, s2, s3, s4⟩ := h
  have hn := hr.noW (show 31 ≠ 119 by decide)
  have hnt := hr.noT (show 31 ≠ 56 by decide)
  have hg := o.grown
  exact ⟨f, c, n, k, c', n', k', va, vc, ra, rc, E, F, e, g.keep hn hg, s1.kept hg (fun k e e2 => s1.neR hr (by decide) (e.trans e2.symm)), fun q hq => (s2 q hq).keep hn hg, s3.kept hg (fun k e e2 => s3.neR hr (by decide) (e.trans e2.symm)), fun q hq => (s4 q hq).keep hn hnt hg⟩
/-- A row of the dual, with no terms yet. -/
def dr0 (P : Prob) (j : Nat) : DR := ⟨⟨#[120]⟩ ++ itx j, (P.V j).obj, 0, fun _ => ⟨0, 0⟩, fun _ => 1⟩
def dv0 (_ : Nat) : DV := ⟨⟨#[]⟩, 0, 1⟩
theorem DU.new {w : World} {F : Nat} {mx : Bool} {c0 c1 c2 : Value} {S : Nat} (P : Prob) (h : Rw 31 w F #[.bool mx, .string ⟨#[]⟩, c0, c1, c2, .slice none 0 0, .slice none 0 0]) : DU w F (⟨F, .slice none 0 0, .slice none 0 0, 0, fun _ => .slice none 0 0⟩ : Fp) mx c0 c1 c2 0 dv0 (dr0 P) S :=
  ⟨h, ⟨fun _ => [], SL.nil _ _ _ _ _, fun q hq => by omega⟩, ⟨fun _ => [], SL.nil _ _ _ _ _, fun q hq => absurd hq (Nat.not_lt_zero _)⟩, fun q hq => absurd hq (Nat.not_lt_zero _), fun i j hi => absurd hi (Nat.not_lt_zero _), Nat.le_refl _⟩
theorem DU.congrR {w : World} {F : Nat} {f : Fp} {mx : Bool} {c0 c1 c2 : Value} {vn : Nat} {V : Nat → DV} {R R' : Nat → DR} {S : Nat} (h : DU w F f mx c0 c1 c2 vn V R S) (e : ∀ q, q < f.rn → R q = R' q) : DU w F f mx c0 c1 c2 vn V R' S := by
  obtain ⟨E, s1, s2⟩ := h.r
  exact ⟨h.rw, h.v, ⟨E, s1, fun q hq => by rw [← e q hq]; exact s2 q hq⟩, fun q hq => by rw [← e q hq]; exact h.t q hq, h.ne, h.lo⟩
theorem f0_has {F k : Nat} (h : (⟨F, .slice none 0 0, .slice none 0 0, 0, fun _ => .slice none 0 0⟩ : Fp).has k) : k = F := by
  rcases h with h | h | h | ⟨j, hj, _⟩
  · exact h
  · cases h
  · cases h
  · exact absurd hj (Nat.not_lt_zero _)
theorem DG.start (P : Prob) (mx : Bool) (hv : P.vn ≤ 1000000000) : DG P mx ⟨0, dv0, dr0 P⟩ 2 (fun _ => 2) := by
  refine ⟨fun n X _ i hi => absurd hi (Nat.not_lt_zero _), fun j hj i hi => rfl, fun j hj q hq => absurd hq (Nat.not_lt_zero _), fun i hi => absurd hi (Nat.not_lt_zero _), by show 1 ≤ 2; omega, fun j hj => by show 1 ≤ 2; omega, fun j hj => ⟨rfl, ?_⟩⟩
  show ((⟨#[120]⟩ : ByteArray) ++ itx j).size ≤ 60
  rw [ByteArray.size_append]
  have := itx_size (n := j) (by omega)
  have e : (⟨#[120]⟩ : ByteArray).size = 1 := rfl
  omega
/-- How much it takes. -/
theorem DG.vnb {P : Prob} {mx : Bool} {x : DS} {KV : Nat} {KR : Nat → Nat} (h : DG P mx x KV KR) : 2 * x.vn + 1 ≤ KV := Nat.le_trans (tot_two (fun q hq => (h.vz q hq).2.1.1)) h.vt
theorem DG.mb {P : Prob} {mx : Bool} {x : DS} {KV : Nat} {KR : Nat → Nat} (h : DG P mx x KV KR) {j : Nat} (hj : j < P.vn) : (x.R j).m ≤ KR j := by
  have h1 := h.rz j hj
  have h2 := tot_len (x.R j).Z (x.R j).m
  omega
/-- The dual behind the first rows. -/
def DI2 (P1 : Prob) (F : Nat) (w4 wr : World) (i : Nat) : Prop := ∃ (vv rv : Value) (tv : Nat → Value) (x : DS), DX wr F (⟨F, vv, rv, P1.vn, tv⟩ : Fp) (!P1.mx) (.bool P1.p) (.slice P1.a P1.na P1.ca) (.slice P1.d P1.nd P1.cd) x P1.K ∧ DG P1 (!P1.mx) x (2 * tot P1.ZR i) (fun _ => 2 * tot P1.ZR i) ∧ KF (⟨F, .slice none 0 0, .slice none 0 0, 0, fun _ => .slice none 0 0⟩ : Fp).has (⟨F, vv, rv, P1.vn, tv⟩ : Fp).has w4 wr
/-- The dual behind all rows and the first variables. -/
def DI3 (P1 : Prob) (F : Nat) (w4 wr : World) (j : Nat) : Prop := ∃ (vv rv : Value) (tv : Nat → Value) (x : DS), DX wr F (⟨F, vv, rv, P1.vn, tv⟩ : Fp) (!P1.mx) (.bool P1.p) (.slice P1.a P1.na P1.ca) (.slice P1.d P1.nd P1.cd) x P1.K ∧ DG P1 (!P1.mx) x (2 * tot P1.ZR P1.rn + 2 * tot P1.ZV j) (fun q => 2 * tot P1.ZR P1.rn + if q < j then 4 else 0) ∧ KF (⟨F, .slice none 0 0, .slice none 0 0, 0, fun _ => .slice none 0 0⟩ : Fp).has (⟨F, vv, rv, P1.vn, tv⟩ : Fp).has w4 wr
theorem sz_one1 : SzR (1 : Rat) 1 := ⟨by decide, by decide⟩
set_option maxRecDepth 100000 in
set_option maxHeartbeats 32000000 in
/-- span.Dual of any problem. -/
theorem dualQ (P : Prob) (w : World) (hP : PQ w P) (hK : P.K ≤ 1048576) (hT : TB w) (hTP : TP w) :
    Calls Tryz.prog 14 #[P.val] w fun e w' => ∃ Q : Prob, e = .returned Q.val ∧ PQ w' Q ∧ DL P Q ∧ Below w.heap.size w w' := by
  have R1 := Rw.new 31 w #[.bool P.mx, .string P.nm, .bool P.p, .slice P.a P.na P.ca, .slice P.d P.nd P.cd, .slice P.va P.vn P.vc, .slice P.ra P.rn P.rc]
  have P0 := box_new w #[.bool P.mx, .string P.nm, .bool P.p, .slice P.a P.na P.ca, .slice P.d P.nd P.cd, .slice P.va P.vn P.vc, .slice P.ra P.rn P.rc] 31
  have hb0 := bel_d0 w (.cells #[.bool P.mx, .string P.nm, .bool P.p, .slice P.a P.na P.ca, .slice P.d P.nd P.cd, .slice P.va P.vn P.vc, .slice P.ra P.rn P.rc] 31)
  have hs0 : (w.alloc (.cells #[.bool P.mx, .string P.nm, .bool P.p, .slice P.a P.na P.ca, .slice P.d P.nd P.cd, .slice P.va P.vn P.vc, .slice P.ra P.rn P.rc] 31)).heap.size = w.heap.size + 1 := by simp
  have R2 := Rw.new 31 (w.alloc (.cells #[.bool P.mx, .string P.nm, .bool P.p, .slice P.a P.na P.ca, .slice P.d P.nd P.cd, .slice P.va P.vn P.vc, .slice P.ra P.rn P.rc] 31)) #[.bool false, .string ⟨#[]⟩, .bool false, .slice none 0 0, .slice none 0 0, .slice none 0 0, .slice none 0 0]
  rw [hs0] at R2
  have hx1 := bel_d0 (w.alloc (.cells #[.bool P.mx, .string P.nm, .bool P.p, .slice P.a P.na P.ca, .slice P.d P.nd P.cd, .slice P.va P.vn P.vc, .slice P.ra P.rn P.rc] 31)) (.cells #[.bool false, .string ⟨#[]⟩, .bool false, .slice none 0 0, .slice none 0 0, .slice none 0 0, .slice none 0 0] 31)
  have hb1 := bel_tr hb0 hx1
  replace R1 := R1.below hx1
  replace P0 := P0.below hx1
  have hs1 : ((w.alloc (.cells #[.bool P.mx, .string P.nm, .bool P.p, .slice P.a P.na P.ca, .slice P.d P.nd P.cd, .slice P.va P.vn P.vc, .slice P.ra P.rn P.rc] 31)).alloc (.cells #[.bool false, .string ⟨#[]⟩, .bool false, .slice none 0 0, .slice none 0 0, .slice none 0 0, .slice none 0 0] 31)).heap.size = w.heap.size + 2 := by simp
  clear hs0 hb0 hx1
  have x0 := P0 0 _ rfl; have x1 := P0 1 _ rfl; have x2 := P0 2 _ rfl; have x3 := P0 3 _ rfl; have x4 := P0 4 _ rfl; have x5 := P0 5 _ rfl; have x6 := P0 6 _ rfl
  unfold Prob.val
  go_enter Tryz.func14, Tryz.ntmps14
  go_wp2_with fail
  clear P0 x0 x1 x2 x3 x4 x5 x6
  generalize (w.alloc (.cells #[.bool P.mx, .string P.nm, .bool P.p, .slice P.a P.na P.ca, .slice P.d P.nd P.cd, .slice P.va P.vn P.vc, .slice P.ra P.rn P.rc] 31)).alloc (.cells #[.bool false, .string ⟨#[]⟩, .bool false, .slice none 0 0, .slice none 0 0, .slice none 0 0, .slice none 0 0] 31) = W1 at *
  have hP1w := hP.below hb1
  have HS1 : Hid (W1.heap.size = w.heap.size + 2) := hs1
  clear hs1
  refine (tidyQ P W1 hP1w hK (hT.below hb1)).mono ?_
  rintro e w2 ⟨v, rfl, hTO, hx2⟩
  obtain ⟨f, c, n, k, c', n', k', va, vc, ra, rc, _, _, ev, _⟩ := id hTO
  subst ev
  replace R1 := R1.below hx2
  replace R2 := R2.below hx2
  go_wp2_with (refine R1.put #[.bool P.mx, .string P.nm, .bool f, .slice c n k, .slice c' n' k', .slice va P.vn vc, .slice ra P.rn rc] rfl _ _ rfl rfl rfl prbI rfl (by simp [Value.oneCell']) ?_)
  intro w3 R3 O3
  replace R2 := R2.off O3 (by omega)
  replace hTO := hTO.off R1 O3
  have hsx := hx2.size
  have hb3 : Below w.heap.size w w3 := (bel_tr hb1 hx2).trans (O3.below (Nat.le_refl _))
  obtain ⟨P1, eP, hP1, ht1, hTc⟩ := hTO.prob hP1w hK
  have eq7 : (#[.bool P.mx, .string P.nm, .bool f, .slice c n k, .slice c' n' k', .slice va P.vn vc, .slice ra P.rn rc] : Array Value) = #[.bool P1.mx, .string P1.nm, .bool P1.p, .slice P1.a P1.na P1.ca, .slice P1.d P1.nd P1.cd, .slice P1.va P1.vn P1.vc, .slice P1.ra P1.rn P1.rc] := by
    have h := eP
    unfold Prob.val at h
    exact Value.agg.inj h
  rw [eq7] at R3
  have hTG := TG.of hTc ht1 hP1 (Nat.le_refl P1.K)
  have hK1 : P1.K ≤ 1048576 := by rw [ht1.K]; exact hK
  have hall := hP1.all
  have HKK : Hid (P1.K = P.K) := ht1.K
  clear hTO hTc R1 O3 eP eq7
  obtain ⟨F, eF⟩ : ∃ F, F = w3.heap.size := ⟨_, rfl⟩
  have HF : Hid (F = w3.heap.size) := eF
  have RD := Rw.new 31 w3 #[.bool (!P1.mx), .string ⟨#[]⟩, .bool P1.p, .slice P1.a P1.na P1.ca, .slice P1.d P1.nd P1.cd, .slice none 0 0, .slice none 0 0]
  have hxD := bel_d0 w3 (.cells #[.bool (!P1.mx), .string ⟨#[]⟩, .bool P1.p, .slice P1.a P1.na P1.ca, .slice P1.d P1.nd P1.cd, .slice none 0 0, .slice none 0 0] 31)
  have hsD : (w3.alloc (.cells #[.bool (!P1.mx), .string ⟨#[]⟩, .bool P1.p, .slice P1.a P1.na P1.ca, .slice P1.d P1.nd P1.cd, .slice none 0 0, .slice none 0 0] 31)).heap.size = w3.heap.size + 1 := by simp
  have y0 := (R3.cell 0).trans (show _ = some (.bool P1.mx) from rfl); have y1 := (R3.cell 1).trans (show _ = some (.string P1.nm) from rfl); have y2 := (R3.cell 2).trans (show _ = some (.bool P1.p) from rfl); have y3 := (R3.cell 3).trans (show _ = some (.slice P1.a P1.na P1.ca) from rfl); have y4 := (R3.cell 4).trans (show _ = some (.slice P1.d P1.nd P1.cd) from rfl); have y5 := (R3.cell 5).trans (show _ = some (.slice P1.va P1.vn P1.vc) from rfl); have y6 := (R3.cell 6).trans (show _ = some (.slice P1.ra P1.rn P1.rc) from rfl)
  have hs3 : w.heap.size + 2 ≤ w3.heap.size := by have := hb3.size; have := R2.lt; omega
  have y5' := kept_c hxD y5
  go_wp2_with fail
  clear y5'
  clear y0 y1 y2 y3 y4 y5 y6
  rw [← eF] at RD hsD ⊢
  replace R2 := R2.below hxD
  replace R3 := R3.below hxD
  have hb4 := bel_tr hb3 hxD
  have hTG4 := hTG
  generalize w3.alloc (.cells #[.bool (!P1.mx), .string ⟨#[]⟩, .bool P1.p, .slice P1.a P1.na P1.ca, .slice P1.d P1.nd P1.cd, .slice none 0 0, .slice none 0 0] 31) = w4 at *
  rw [← eF] at hs3
  have hTF : 3 < F := by have := hT.2; omega
  have HFX : Hid (Below w3.heap.size w3 w4) := hxD
  have D0 := DU.new (mx := !P1.mx) (c0 := .bool P1.p) (c1 := .slice P1.a P1.na P1.ca) (c2 := .slice P1.d P1.nd P1.cd) (S := P1.K) P1 RD
  have hvn1 : P1.vn ≤ 1048576 := by have := tot_len P1.ZV P1.vn; omega
  have hrn1 : P1.rn ≤ 1048576 := by have := tot_len P1.ZR P1.rn; omega
  have hnf : ∀ k, (⟨F, .slice none 0 0, .slice none 0 0, 0, fun _ => .slice none 0 0⟩ : Fp).has k → F ≤ k := fun k h => by rw [f0_has h]; exact Nat.le_refl _
  have hF4 : F ≤ w4.heap.size := by omega
  have LOWF : ∀ wq C', KF (⟨F, .slice none 0 0, .slice none 0 0, 0, fun _ => .slice none 0 0⟩ : Fp).has C' w4 wq → Below F w4 wq := fun wq C' hk => hk.below hnf hF4
  have HLOW : Hid (∀ wq C', KF (⟨F, .slice none 0 0, .slice none 0 0, 0, fun _ => .slice none 0 0⟩ : Fp).has C' w4 wq → Below F w4 wq) := LOWF
  have HTG : Hid (∀ wq C', KF (⟨F, .slice none 0 0, .slice none 0 0, 0, fun _ => .slice none 0 0⟩ : Fp).has C' w4 wq → TG wq P1 P1.K) := fun wq C' hk => by
    have hb := HLOW.out wq C' hk
    rw [eF] at hb
    have hbb : Below w3.heap.size w3 wq := hxD.trans hb
    exact ⟨hTG.v.below hbb, by
      rcases hTG.r with h | ⟨g, e, h⟩
      · exact .inl h
      · exact .inr ⟨g, e, fun i hi => (h i hi).below hbb⟩, hTG.t⟩
  have HTB : Hid (∀ wq C', KF (⟨F, .slice none 0 0, .slice none 0 0, 0, fun _ => .slice none 0 0⟩ : Fp).has C' w4 wq → TB wq ∧ TP wq) := fun wq C' hk => by
    have hb : Below w.heap.size w4 wq := (HLOW.out wq C' hk).mono (by omega)
    exact ⟨hT.below (hb4.trans hb), hTP.below (hb4.trans hb)⟩
  have HL3 : Hid (∀ wq C', KF (⟨F, .slice none 0 0, .slice none 0 0, 0, fun _ => .slice none 0 0⟩ : Fp).has C' w4 wq → ∀ i, i < P1.rn → ∀ ta nt' tc g, P1.ra = some ⟨g, 0, none⟩ → wq.cell? ⟨g, i * 10 + 1, none⟩ = some (.slice ta nt' tc) → (P1.R i).nt ≠ 0 → ∀ tg, ta = some ⟨tg, 0, none⟩ → tg < F) := fun wq C' hk i hi ta nt' tc g hg hc h0 tg htg => by
    have hb := HLOW.out wq C' hk
    rw [eF] at hb
    have hbb : Below w3.heap.size w3 wq := hxD.trans hb
    rcases hTG.r with h | ⟨g', e, h⟩
    · omega
    · obtain ⟨ta', tc', p2', a2', n2', k2', d2', m2', l2', p3', a3', n3', k3', d3', m3', l3', e', g1, _, _⟩ := h i hi
      rw [hg] at e
      simp only [Option.some.injEq, Addr.mk.injEq, and_true] at e
      subst e
      have c1 := kept_c hbb (e' 1 _ rfl)
      rw [c1] at hc
      simp only [Option.some.injEq, Value.slice.injEq] at hc
      rw [eF]
      exact g1.lt h0 (hc.1.trans htg)
  have HPQ : Hid (∀ wq C', KF (⟨F, .slice none 0 0, .slice none 0 0, 0, fun _ => .slice none 0 0⟩ : Fp).has C' w4 wq → PQ wq P1) := fun wq C' hk => by
    have hb := HLOW.out wq C' hk
    rw [eF] at hb
    exact hP1.below (hxD.trans hb)
  clear hTG hTG4 LOWF hnf RD hxD hb3 eF
  go_loopw [22] (fun s wr => ∃ (i : Nat) (ra : Option Addr) (rc : Nat) (tv : Nat → Value), i ≤ P1.vn ∧ s = .int .i64 i ∧ DU wr F (⟨F, .slice none 0 0, .slice ra i rc, i, tv⟩ : Fp) (!P1.mx) (.bool P1.p) (.slice P1.a P1.na P1.ca) (.slice P1.d P1.nd P1.cd) 0 dv0 (dr0 P1) P1.K ∧ KF (⟨F, .slice none 0 0, .slice none 0 0, 0, fun _ => .slice none 0 0⟩ : Fp).has (⟨F, .slice none 0 0, .slice ra i rc, i, tv⟩ : Fp).has w4 wr) (fun t _ => P1.vn - (intOf t).toNat)
  case atStart => exact ⟨0, none, 0, fun _ => .slice none 0 0, Nat.zero_le _, rfl, D0, KF.refl _ _⟩
  case round =>
    clear D0
    obtain ⟨i, ra, rc, tv, hi, rfl, DQ, KU⟩ := hrel
    by_cases hlt : i < P1.vn
    · have hkI : (i : Int) < (P1.vn : Int) := by omega
      have hkI2 : (i : Int) * 13 = ((i * 13 : Nat) : Int) := by omega
      have hsU := KU.size
      have hTPw := (HTB.out _ _ KU).2
      rcases (HTG.out _ _ KU).v with h00 | ⟨vg, hva, hev⟩
      · omega
      obtain ⟨p1, a1, n1, k1, d1, m1, l1, p2, a2, n2, k2, d2, m2, l2, p3, a3, n3, k3, d3, m3, l3, hc13, GV1, GV2, GV3⟩ := hev i hlt
      obtain ⟨nm, enm⟩ : ∃ nm, nm = (P1.V i).nm := ⟨_, rfl⟩
      obtain ⟨hl, ehl⟩ : ∃ hl, hl = (P1.V i).hlo := ⟨_, rfl⟩
      obtain ⟨hh, ehh⟩ : ∃ hh, hh = (P1.V i).hhi := ⟨_, rfl⟩
      obtain ⟨wh, ewh⟩ : ∃ wh, wh = (P1.V i).whole := ⟨_, rfl⟩
      rw [← enm, ← ehl, ← ehh, ← ewh] at hc13
      have r0 := hc13 0 _ rfl; have r1 := hc13 1 _ rfl; have r2 := hc13 2 _ rfl; have r3 := hc13 3 _ rfl; have r4 := hc13 4 _ rfl; have r5 := hc13 5 _ rfl; have r6 := hc13 6 _ rfl; have r7 := hc13 7 _ rfl; have r8 := hc13 8 _ rfl; have r9 := hc13 9 _ rfl; have r10 := hc13 10 _ rfl; have r11 := hc13 11 _ rfl; have r12 := hc13 12 _ rfl
      clear hc13 hev enm ehl ehh ewh GV2 GV3
      have hva' : P1.va = some ⟨vg, 0, none⟩ := hva
      clear hva
      rw [Nat.add_zero] at r0
      have N := box_new wr #[.string nm, .bool p1, .slice a1 n1 k1, .slice d1 m1 l1, .bool hl, .bool p2, .slice a2 n2 k2, .slice d2 m2 l2, .bool hh, .bool p3, .slice a3 n3 k3, .slice d3 m3 l3, .bool wh] 54
      have n0' := N 0 _ rfl; have n1' := N 1 _ rfl; have n2' := N 2 _ rfl; have n3' := N 3 _ rfl; have n4' := N 4 _ rfl; have n5' := N 5 _ rfl; have n6' := N 6 _ rfl; have n7' := N 7 _ rfl; have n8' := N 8 _ rfl; have n9' := N 9 _ rfl; have n10' := N 10 _ rfl; have n11' := N 11 _ rfl; have n12' := N 12 _ rfl
      have hz := bel_d0 wr (.cells #[.string nm, .bool p1, .slice a1 n1 k1, .slice d1 m1 l1, .bool hl, .bool p2, .slice a2 n2 k2, .slice d2 m2 l2, .bool hh, .bool p3, .slice a3 n3 k3, .slice d3 m3 l3, .bool wh] 54)
      have hs1' : (wr.alloc (.cells #[.string nm, .bool p1, .slice a1 n1 k1, .slice d1 m1 l1, .bool hl, .bool p2, .slice a2 n2 k2, .slice d2 m2 l2, .bool hh, .bool p3, .slice a3 n3 k3, .slice d3 m3 l3, .bool wh] 54)).heap.size = wr.heap.size + 1 := by simp
      have B2 := box_new (wr.alloc (.cells #[.string nm, .bool p1, .slice a1 n1 k1, .slice d1 m1 l1, .bool hl, .bool p2, .slice a2 n2 k2, .slice d2 m2 l2, .bool hh, .bool p3, .slice a3 n3 k3, .slice d3 m3 l3, .bool wh] 54)) #[.bool true, .bool p1, .slice a1 n1 k1, .slice d1 m1 l1] 52
      rw [hs1'] at B2
      have hz2 := bel_tr hz (bel_d0 (wr.alloc (.cells #[.string nm, .bool p1, .slice a1 n1 k1, .slice d1 m1 l1, .bool hl, .bool p2, .slice a2 n2 k2, .slice d2 m2 l2, .bool hh, .bool p3, .slice a3 n3 k3, .slice d3 m3 l3, .bool wh] 54)) (.cells #[.bool true, .bool p1, .slice a1 n1 k1, .slice d1 m1 l1] 52))
      have hsW : ((wr.alloc (.cells #[.string nm, .bool p1, .slice a1 n1 k1, .slice d1 m1 l1, .bool hl, .bool p2, .slice a2 n2 k2, .slice d2 m2 l2, .bool hh, .bool p3, .slice a3 n3 k3, .slice d3 m3 l3, .bool wh] 54)).alloc (.cells #[.bool true, .bool p1, .slice a1 n1 k1, .slice d1 m1 l1] 52)).heap.size = wr.heap.size + 2 := by simp
      clear hs1' hz
      obtain ⟨E, SLU, RE⟩ := id DQ.r
      have DU2 := DQ.below hz2
      have hbF : (.slice ra i rc : Value).ownBlock ≠ some (wr.heap.size + 1) := fun e => by have := (SLU.lt _ e).2; omega
      replace SLU := SLU.below hz2
      have RE2 := fun q hq => (RE q hq).below hz2
      have G2 := GV1.below hz2
      have hTP2 := hTPw.below hz2
      have KU2 := KU.bel hz2
      go_wp2_with fail
      clear r0 n0' r1 n1' r2 n2' r3 n3' r4 n4' r5 n5' r6 n6' r7 n7' r8 n8' r9 n9' r10 n10' r11 n11' r12 n12' N GV1 RE DQ KU hTPw hz2
      generalize (wr.alloc (.cells #[.string nm, .bool p1, .slice a1 n1 k1, .slice d1 m1 l1, .bool hl, .bool p2, .slice a2 n2 k2, .slice d2 m2 l2, .bool hh, .bool p3, .slice a3 n3 k3, .slice d3 m3 l3, .bool wh] 54)).alloc (.cells #[.bool true, .bool p1, .slice a1 n1 k1, .slice d1 m1 l1] 52) = W2 at *
      have fR : W2.cell? ⟨F, 6, none⟩ = some (.slice ra i rc) := (DU2.rw.cell 6).trans rfl
      have HBX : ∀ w', Below W2.heap.size W2 w' → (w'.cell? ⟨F, 6, none⟩ = some (.slice ra i rc) ∧ w'.cell? ⟨wr.heap.size + 1, 0, none⟩ = some (.bool true) ∧ w'.cell? ⟨wr.heap.size + 1, 1, none⟩ = some (.bool p1) ∧ w'.cell? ⟨wr.heap.size + 1, 2, none⟩ = some (.slice a1 n1 k1) ∧ w'.cell? ⟨wr.heap.size + 1, 3, none⟩ = some (.slice d1 m1 l1)) := fun w' h => ⟨kept_c h fR, kept_c h (B2 0 _ rfl), kept_c h (B2 1 _ rfl), kept_c h (B2 2 _ rfl), kept_c h (B2 3 _ rfl)⟩
      refine wp_region_noPanic (wp_region_guard (Till 10 10 (fun w' => w'.cell? ⟨F, 6, none⟩ = some (.slice ra i rc) ∧ w'.cell? ⟨wr.heap.size + 1, 0, none⟩ = some (.bool true) ∧ w'.cell? ⟨wr.heap.size + 1, 1, none⟩ = some (.bool p1) ∧ w'.cell? ⟨wr.heap.size + 1, 2, none⟩ = some (.slice a1 n1 k1) ∧ w'.cell? ⟨wr.heap.size + 1, 3, none⟩ = some (.slice d1 m1 l1)) (fun _ => True)) (by as_aux_lemma => kernel_rfl) ?_)
      have hc0 : Below W2.heap.size W2 W2.drew := bel_d1 _
      generalize W2.drew = z0 at *
      refine wpAnyG.take 0 (v := .pointer (some ⟨F, 6, none⟩)) (by decide) (by as_aux_lemma => kernel_rfl) (fun _ _ _ h => h) 10 _ (by rfl) (till_ind (by decide) (by decide)) (fun L w' h1 h2 => h2.1 h1) (by as_aux_lemma => kernel_rfl) (by as_aux_lemma => kernel_rfl) (by as_aux_lemma => kernel_rfl) (by rfl) ?y0 ⟨fun _ => HBX _ hc0, fun _ => trivial⟩ (by rfl) ?_
      case y0 =>
        rintro w' ⟨q0, q1, q2, q3, q4⟩
        simp only [List.getElem_toArray, List.getElem_cons_zero]
        go_simp
      simp only [List.getElem_toArray, List.getElem_cons_zero, Act.put, List.setIfInBounds_toArray, List.set_cons_zero, List.set_cons_succ]
      refine wpAnyG.take 1 (v := .slice ra i rc) (by decide) (by as_aux_lemma => kernel_rfl) (fun _ _ _ h => h) 10 _ (by rfl) (till_ind (by decide) (by decide)) (fun L w' h1 h2 => h2.1 h1) (by as_aux_lemma => kernel_rfl) (by as_aux_lemma => kernel_rfl) (by as_aux_lemma => kernel_rfl) (by rfl) ?y1 ⟨fun _ => HBX _ hc0, fun _ => trivial⟩ (by rfl) ?_
      case y1 =>
        rintro w' ⟨q0, q1, q2, q3, q4⟩
        simp only [List.getElem_toArray, List.getElem_cons_zero, List.getElem_cons_succ]
        go_simp
      simp only [List.getElem_toArray, List.getElem_cons_zero, List.getElem_cons_succ, Act.put, List.setIfInBounds_toArray, List.set_cons_zero, List.set_cons_succ]
      refine wpAnyG.take 2 (v := .int .i64 (i : Nat)) (by decide) (by as_aux_lemma => kernel_rfl) (fun _ _ _ h => h) 10 _ (by rfl) (till_ind (by decide) (by decide)) (fun L w' h1 h2 => h2.1 h1) (by as_aux_lemma => kernel_rfl) (by as_aux_lemma => kernel_rfl) (by as_aux_lemma => kernel_rfl) (by rfl) ?y2 ⟨fun _ => HBX _ hc0, fun _ => trivial⟩ (by rfl) ?_
      case y2 =>
        rintro w' ⟨q0, q1, q2, q3, q4⟩
        simp only [List.getElem_toArray, List.getElem_cons_zero, List.getElem_cons_succ]
        go_simp
      simp only [List.getElem_toArray, List.getElem_cons_zero, List.getElem_cons_succ, Act.put, List.setIfInBounds_toArray, List.set_cons_zero, List.set_cons_succ]
      refine wpAnyG.take 5 (v := .agg #[.bool true, .bool p1, .slice a1 n1 k1, .slice d1 m1 l1]) (by decide) (by as_aux_lemma => kernel_rfl) (fun _ _ _ h => h) 10 _ (by rfl) (till_ind (by decide) (by decide)) (fun L w' h1 h2 => h2.1 h1) (by as_aux_lemma => kernel_rfl) (by as_aux_lemma => kernel_rfl) (by as_aux_lemma => kernel_rfl) (by rfl) ?y5 ⟨fun _ => HBX _ hc0, fun _ => trivial⟩ (by rfl) ?_
      case y5 =>
        rintro w' ⟨q0, q1, q2, q3, q4⟩
        simp only [List.getElem_toArray, List.getElem_cons_zero, List.getElem_cons_succ]
        go_simp
      simp only [List.getElem_toArray, List.getElem_cons_zero, List.getElem_cons_succ, Act.put, List.setIfInBounds_toArray, List.set_cons_zero, List.set_cons_succ]
      refine wpAnyG.take 6 (v := .agg #[.bool true, .bool p1, .slice a1 n1 k1, .slice d1 m1 l1]) (by decide) (by as_aux_lemma => kernel_rfl) (fun _ _ _ h => h) 10 _ (by rfl) (till_ind (by decide) (by decide)) (fun L w' h1 h2 => h2.1 h1) (by as_aux_lemma => kernel_rfl) (by as_aux_lemma => kernel_rfl) (by as_aux_lemma => kernel_rfl) (by rfl) ?y6 ⟨fun _ => HBX _ hc0, fun _ => trivial⟩ (by rfl) ?_
      case y6 =>
        rintro w' ⟨q0, q1, q2, q3, q4⟩
        simp only [List.getElem_toArray, List.getElem_cons_zero, List.getElem_cons_succ]
        go_simp
      simp only [List.getElem_toArray, List.getElem_cons_zero, List.getElem_cons_succ, Act.put, List.setIfInBounds_toArray, List.set_cons_zero, List.set_cons_succ]
      refine wpAnyG.one 3 (by as_aux_lemma => kernel_rfl) (by decide) (by rfl) (fun K hK => ?_)
      simp only [List.getElem_toArray, List.getElem_cons_zero, List.getElem_cons_succ]
      go_simp
      refine (itoaN i (by omega) z0 (hTP2.below hc0)).mono ?_
      rintro e z1 ⟨sn, rfl, esn, hk1⟩
      have hc1 : Below W2.heap.size W2 z1 := bel_tr hc0 hk1
      have ESN : Hid (sn = itx i) := esn
      have hsn : 1 + sn.size ≤ 9223372036854775807 := by
        have h1 : sn.size ≤ 21 := by rw [esn]; exact itx_size (by omega)
        omega
      clear esn
      dsimp only
      refine hK _ _ ⟨fun _ => HBX _ hc1, fun _ => trivial⟩ ?_
      clear hK K
      refine wpAnyG.take 4 (v := .string (⟨#[120]⟩ ++ sn)) (by decide) (by as_aux_lemma => kernel_rfl) (fun _ _ _ h => h) 10 _ (by rfl) (till_ind (by decide) (by decide)) (fun L w' h1 h2 => h2.1 h1) (by as_aux_lemma => kernel_rfl) (by as_aux_lemma => kernel_rfl) (by as_aux_lemma => kernel_rfl) (by rfl) ?y4 ⟨fun _ => HBX _ hc1, fun _ => trivial⟩ (by rfl) ?_
      case y4 =>
        rintro w' ⟨q0, q1, q2, q3, q4⟩
        simp only [List.getElem_toArray, List.getElem_cons_zero, List.getElem_cons_succ]
        go_simp
      simp only [List.getElem_toArray, List.getElem_cons_zero, List.getElem_cons_succ, Act.put, List.setIfInBounds_toArray, List.set_cons_zero, List.set_cons_succ]
      refine wpAnyG.take 7 (v := .agg #[.string (⟨#[120]⟩ ++ sn), .slice none 0 0, .bool true, .bool p1, .slice a1 n1 k1, .slice d1 m1 l1, .bool true, .bool p1, .slice a1 n1 k1, .slice d1 m1 l1]) (by decide) (by as_aux_lemma => kernel_rfl) (fun _ _ _ h => h) 10 _ (by rfl) (till_ind (by decide) (by decide)) (fun L w' h1 h2 => h2.1 h1) (by as_aux_lemma => kernel_rfl) (by as_aux_lemma => kernel_rfl) (by as_aux_lemma => kernel_rfl) (by rfl) ?y7 ⟨fun _ => HBX _ hc1, fun _ => trivial⟩ (by rfl) ?_
      case y7 =>
        rintro w' ⟨q0, q1, q2, q3, q4⟩
        simp only [List.getElem_toArray, List.getElem_cons_zero, List.getElem_cons_succ]
        go_simp
      simp only [List.getElem_toArray, List.getElem_cons_zero, List.getElem_cons_succ, Act.put, List.setIfInBounds_toArray, List.set_cons_zero, List.set_cons_succ]
      refine wpAnyG.one 8 (by as_aux_lemma => kernel_rfl) (by decide) (by rfl) (fun K hK => ?_)
      simp only [List.getElem_toArray, List.getElem_cons_zero, List.getElem_cons_succ]
      go_simp
      have hy : Below W2.heap.size W2 (z1.alloc (.cells #[.string (⟨#[120]⟩ ++ sn), .slice none 0 0, .bool true, .bool p1, .slice a1 n1 k1, .slice d1 m1 l1, .bool true, .bool p1, .slice a1 n1 k1, .slice d1 m1 l1] 59)) := bel_a hc1
      have BX := box_new z1 #[.string (⟨#[120]⟩ ++ sn), .slice none 0 0, .bool true, .bool p1, .slice a1 n1 k1, .slice d1 m1 l1, .bool true, .bool p1, .slice a1 n1 k1, .slice d1 m1 l1] 59
      have hs4 : (z1.alloc (.cells #[.string (⟨#[120]⟩ ++ sn), .slice none 0 0, .bool true, .bool p1, .slice a1 n1 k1, .slice d1 m1 l1, .bool true, .bool p1, .slice a1 n1 k1, .slice d1 m1 l1] 59)).heap.size = z1.heap.size + 1 := by simp
      generalize z1.alloc (.cells #[.string (⟨#[120]⟩ ++ sn), .slice none 0 0, .bool true, .bool p1, .slice a1 n1 k1, .slice d1 m1 l1, .bool true, .bool p1, .slice a1 n1 k1, .slice d1 m1 l1] 59) = z5 at *
      refine hK _ _ ⟨fun _ => HBX _ hy, fun _ => trivial⟩ ?_
      clear hK K
      refine wpAnyG.one 9 (by as_aux_lemma => kernel_rfl) (by decide) (by rfl) (fun K hK => ?_)
      simp only [List.getElem_toArray, List.getElem_cons_zero, List.getElem_cons_succ]
      have DZ := DU2.below hy
      have SLZ := SLU.below hy
      have hsy := hy.size
      refine wp_appendS z5 _ _ 29 59 10 168 rfl Tryz.underlying29 infRow (by decide) (by decide) F (.slice ra i rc) i E rfl SLZ z1.heap.size 1 rfl [.string (⟨#[120]⟩ ++ sn), .slice none 0 0, .bool true, .bool p1, .slice a1 n1 k1, .slice d1 m1 l1, .bool true, .bool p1, .slice a1 n1 k1, .slice d1 m1 l1] rfl (fun u hu => by simp only [List.mem_cons, List.not_mem_nil, or_false] at hu; rcases hu with rfl | rfl | rfl | rfl | rfl | rfl | rfl | rfl | rfl | rfl <;> rfl) BX (by omega) (by omega) _ rfl ?_
      intro g6 cap6 w6 SN hg hat hgl
      have RZ6 : Rw 31 w6 F #[.bool (!P1.mx), .string ⟨#[]⟩, .bool P1.p, .slice P1.a P1.na P1.ca, .slice P1.d P1.nd P1.cd, .slice none 0 0, .slice ra i rc] := Rw.kept DZ.rw hg (SLZ.neR DZ.rw (by decide))
      have e0 := (RZ6.cell 6).trans (show _ = some (.slice ra i rc) from rfl)
      have e1 := RZ6.frozen 6
      have eb : w6.heap[wr.heap.size + 1]? = z5.heap[wr.heap.size + 1]? := hg.block _ (by omega) (fun e => hbF e.symm)
      refine hK _ _ ⟨fun _ => ⟨e0, (World.cell?_of_block (w := z5) eb).trans (kept_c hy (B2 0 _ rfl)), (World.cell?_of_block (w := z5) eb).trans (kept_c hy (B2 1 _ rfl)), (World.cell?_of_block (w := z5) eb).trans (kept_c hy (B2 2 _ rfl)), (World.cell?_of_block (w := z5) eb).trans (kept_c hy (B2 3 _ rfl))⟩, fun _ => trivial⟩ ?_
      clear hK K
      refine wpAnyG.one 10 (by as_aux_lemma => kernel_rfl) (by decide) (by rfl) (fun K hK => ?_)
      simp only [List.getElem_toArray, List.getElem_cons_zero, List.getElem_cons_succ]
      go_simp
      refine hK _ _ ⟨fun h => absurd h (by decide), fun _ => trivial⟩ ?_
      clear hK K
      refine wpAnyG.one 11 (by as_aux_lemma => kernel_rfl) (by decide) (by rfl) (fun K hK => ?_)
      simp only [List.getElem_toArray, List.getElem_cons_zero, List.getElem_cons_succ]
      go_simp
      refine hK _ _ ⟨fun h => absurd h (by decide), fun _ => trivial⟩ ?_
      clear hK K
      refine wpAnyG.done (by as_aux_lemma => kernel_rfl) (NoPanic.normal ?_)
      obtain ⟨DN, KN⟩ := DU.addR (r := dr0 P1 i) DZ SLZ (fun q hq => (RE2 q hq).below hy) SN hg hat ⟨_, _, _, _, _, _, _, by rw [ESN.out]; rfl, G2.below hy⟩ rfl
      have KT := (KU2.bel hy).trans KN
      have DN2 := DN.congrR (R' := dr0 P1) (fun q hq => by
        by_cases h : q < i
        · simp only [h, if_true]
        · simp only [h, if_false]
          have hq' : q < i + 1 := hq
          rw [show q = i by omega])
      clear DN KN SN hg hat hgl RZ6 e0 e1 eb DZ SLZ BX HBX hc0 hc1 hk1 hy B2 fR DU2 SLU RE2 G2 hTP2 KU2 ESN hsn hsy hs4 hsW hbF
      generalize w6.setCell ⟨F, 6, none⟩ (.slice (some ⟨g6, 0, none⟩) (i + 1) cap6) = w7 at *
      try rw [← hva']
      clear hva'
      go_wp2
      go_roundw
      case rel => first | exact ⟨i + 1, _, _, _, by omega, by go_num, DN2, KT⟩ | ((repeat apply Exists.intro); refine ⟨?_, rfl⟩; exact ⟨i + 1, _, _, _, by omega, by go_num, DN2, KT⟩)
      case measure => simp [intOf]; omega
    · have hkI : ¬ (i : Int) < (P1.vn : Int) := by omega
      obtain rfl : i = P1.vn := by omega
      have X0 : DX wr F (⟨F, .slice none 0 0, .slice ra P1.vn rc, P1.vn, tv⟩ : Fp) (!P1.mx) (.bool P1.p) (.slice P1.a P1.na P1.ca) (.slice P1.d P1.nd P1.cd) ⟨0, dv0, dr0 P1⟩ P1.K := DQ
      have G0 := DG.start P1 (!P1.mx) (by omega)
      have e6 := (((R3.kf KU (fun h => by have := f0_has h; omega))).cell 6).trans (show _ = some (.slice P1.ra P1.rn P1.rc) from rfl)
      go_wp2_with fail
      go_loopw [45] (fun s wr => ∃ i : Nat, i ≤ P1.rn ∧ s = .int .i64 i ∧ DI2 P1 F w4 wr i) (fun t _ => P1.rn - (intOf t).toNat)
      case atStart => exact ⟨0, Nat.zero_le _, rfl, _, _, _, _, X0, G0, KU⟩
      case round =>
        clear X0 G0 KU DQ e6
        obtain ⟨i, hi, rfl, vv, rv, tv, x, DQ, hG, KU⟩ := hrel
        by_cases hlt : i < P1.rn
        · have hkI : (i : Int) < (P1.rn : Int) := by omega
          have hkI2 : (i : Int) * 10 = ((i * 10 : Nat) : Int) := by omega
          have hsU := KU.size
          have hTBw := HTB.out _ _ KU
          rcases (HTG.out _ _ KU).r with h00 | ⟨rg, hra, hev⟩
          · omega
          have htv := (HTG.out _ _ KU).t i hlt
          obtain ⟨ta, tc, p2, a2, n2, k2, d2, m2, l2, p3, a3, n3, k3, d3, m3, l3, hc10, L1, GL, GH⟩ := hev i hlt
          have hLF := HL3.out _ _ KU i hlt ta _ tc rg hra (hc10 1 _ rfl)
          obtain ⟨nr, enr⟩ : ∃ nr, nr = (P1.R i).nm := ⟨_, rfl⟩
          obtain ⟨nt, ent⟩ : ∃ nt, nt = (P1.R i).nt := ⟨_, rfl⟩
          obtain ⟨hl, ehl⟩ : ∃ hl, hl = (P1.R i).hlo := ⟨_, rfl⟩
          obtain ⟨hh, ehh⟩ : ∃ hh, hh = (P1.R i).hhi := ⟨_, rfl⟩
          rw [← enr, ← ent, ← ehl, ← ehh] at hc10
          rw [← ent] at L1 hLF htv
          have r0 := hc10 0 _ rfl; have r1 := hc10 1 _ rfl; have r2 := hc10 2 _ rfl; have r3 := hc10 3 _ rfl; have r4 := hc10 4 _ rfl; have r5 := hc10 5 _ rfl; have r6 := hc10 6 _ rfl; have r7 := hc10 7 _ rfl; have r8 := hc10 8 _ rfl; have r9 := hc10 9 _ rfl
          have HE : Hid (nt = (P1.R i).nt ∧ hl = (P1.R i).hlo ∧ hh = (P1.R i).hhi) := ⟨ent, ehl, ehh⟩
          obtain ⟨rb, ro, hRow⟩ := hP1.row hlt
          obtain ⟨_, _, Zt, _, hLT, htot, _⟩ := hRow.terms
          have hZi : P1.ZR i ≤ tot P1.ZR P1.rn := tot_le hlt
          have hZ1 := hRow.s1
          rw [← ent] at hLT htot
          have hgt := hLT.get
          have hntl := tot_len Zt nt
          have hSr : 1 ≤ P1.ZR i ∧ P1.ZR i ≤ 1048576 := ⟨hZ1, by omega⟩
          have hZq : ∀ q, q < nt → SzR ((P1.R i).t q).coef (Zt q) ∧ 1 ≤ Zt q ∧ Zt q ≤ 7000000 := fun q hq => ⟨(hgt q hq).1, (hgt q hq).2, by have := tot_le (Z := Zt) hq; omega⟩
          have HZQ : Hid (∀ q, q < nt → SzR ((P1.R i).t q).coef (Zt q) ∧ 1 ≤ Zt q ∧ Zt q ≤ 7000000) := hZq
          have slo := hRow.slo
          have shi := hRow.shi
          have hntb : nt ≤ 1048576 := by omega
          have hDl := DQ.lt
          have hvb := hG.vnb
          have hti : tot P1.ZR i ≤ tot P1.ZR P1.rn := tot_mono P1.ZR hi
          have hmb := fun j (hj : j < P1.vn) => hG.mb hj
          have hra' : P1.ra = some ⟨rg, 0, none⟩ := hra
          clear hc10 hev enr ent ehl ehh hra hRow hLT hgt hZq
          rw [Nat.add_zero] at r0
          have N := box_new wr #[.string nr, .slice ta nt tc, .bool hl, .bool p2, .slice a2 n2 k2, .slice d2 m2 l2, .bool hh, .bool p3, .slice a3 n3 k3, .slice d3 m3 l3] 59
          have n0' := N 0 _ rfl; have n1' := N 1 _ rfl; have n2' := N 2 _ rfl; have n3' := N 3 _ rfl; have n4' := N 4 _ rfl; have n5' := N 5 _ rfl; have n6' := N 6 _ rfl; have n7' := N 7 _ rfl; have n8' := N 8 _ rfl; have n9' := N 9 _ rfl
          have hz := bel_d0 wr (.cells #[.string nr, .slice ta nt tc, .bool hl, .bool p2, .slice a2 n2 k2, .slice d2 m2 l2, .bool hh, .bool p3, .slice a3 n3 k3, .slice d3 m3 l3] 59)
          have hsW : (wr.alloc (.cells #[.string nr, .slice ta nt tc, .bool hl, .bool p2, .slice a2 n2 k2, .slice d2 m2 l2, .bool hh, .bool p3, .slice a3 n3 k3, .slice d3 m3 l3] 59)).heap.size = wr.heap.size + 1 := by simp
          have D2 := DQ.below hz
          have L2 := L1.below hz
          have GL2 := (GL.below hz).fit slo
          have GH2 := (GH.below hz).fit shi
          have T2 := hTBw.1.below hz
          have TP2 := hTBw.2.below hz
          have KU2 := KU.bel hz
          have HLN : Hid (nt ≠ 0 → ∀ g, ta = some ⟨g, 0, none⟩ → ¬ (⟨F, vv, rv, P1.vn, tv⟩ : Fp).has g) := fun h0 g hg e => by
            have h1 := hLF h0 g hg
            have h2 := (hDl g e).1
            omega
          go_wp2_with fail
          clear r0 n0' r1 n1' r2 n2' r3 n3' r4 n4' r5 n5' r6 n6' r7 n7' r8 n8' r9 n9' N L1 GL GH hTBw KU DQ hz hDl hLF
          generalize wr.alloc (.cells #[.string nr, .slice ta nt tc, .bool hl, .bool p2, .slice a2 n2 k2, .slice d2 m2 l2, .bool hh, .bool p3, .slice a3 n3 k3, .slice d3 m3 l3] 59) = W2 at *
          refine (addBndQ (x := x) (Z := Zt) (kd := ⟨#[114]⟩) i W2 D2 (by omega) GL2 GH2 ⟨hSr.1, by omega⟩ L2 HLN.out htv HZQ.out hntb (by omega) (by decide) (by omega) (show P1.vn ≤ 10000000 by omega) (fun j hj => by have := hmb j hj; omega) T2 TP2 hTF).mono ?_
          rintro e w6 ⟨rfl, ⟨D', vv', rv', rn', tv'⟩, nP, nM, hnP, hnM, e61, e62, DN, KN⟩
          have e61' : F = D' := e61.symm
          subst e61'
          have e62' : P1.vn = rn' := e62.symm
          subst e62'
          have KT := KU2.trans KN
          have GN := hG.bnd (nP := nP) (nM := nM) (hl := hl) (hh := hh) (lo := (P1.R i).lo) (hi := (P1.R i).hi) (t := (P1.R i).t) (Z := Zt) (nt := nt) hnP hnM slo shi hSr (fun q hq => (htv q hq).1) (fun q hq => (HZQ.out q hq).2.1) (fun n X hX => by
            have h := hX.2.2 i hlt
            unfold cv at h
            rw [cv_gs] at h
            rw [HE.out.1, HE.out.2.1, HE.out.2.2]
            exact h)
          have GN2 : DG P1 (!P1.mx) (x.bnd (!P1.mx) nP nM hl (P1.R i).lo hh (P1.R i).hi (P1.ZR i) (P1.R i).t Zt nt) (2 * tot P1.ZR (i + 1)) (fun _ => 2 * tot P1.ZR (i + 1)) := GN.mono (by show 2 * tot P1.ZR i + 2 * (P1.ZR i + 1) ≤ 2 * (tot P1.ZR i + P1.ZR i + 1); omega) (fun j _ => by
            have h1 := zs_le (P1.R i).t Zt (j : Int) nt
            show 2 * tot P1.ZR i + 2 * zs (P1.R i).t Zt (j : Int) nt ≤ 2 * (tot P1.ZR i + P1.ZR i + 1)
            omega)
          clear D2 L2 GL2 GH2 T2 TP2 KU2 KN GN HLN hG hmb hvb slo shi HZQ HE htv
          try rw [← hra']
          clear hra'
          go_wp2
          go_roundw
          case rel => first | exact ⟨i + 1, by omega, by go_num, _, _, _, _, DN, GN2, KT⟩ | ((repeat apply Exists.intro); refine ⟨?_, rfl⟩; exact ⟨i + 1, by omega, by go_num, _, _, _, _, DN, GN2, KT⟩)
          case measure => simp [intOf]; omega
        · have hkI : ¬ (i : Int) < (P1.rn : Int) := by omega
          obtain rfl : i = P1.rn := by omega
          have G0 : DG P1 (!P1.mx) x (2 * tot P1.ZR P1.rn + 2 * tot P1.ZV 0) (fun q => 2 * tot P1.ZR P1.rn + if q < 0 then 4 else 0) := hG.mono (by omega) (fun j _ => by omega)
          have e5 := (((R3.kf KU (fun h => by have := f0_has h; omega))).cell 5).trans (show _ = some (.slice P1.va P1.vn P1.vc) from rfl)
          go_wp2_with fail
          go_loopw [57] (fun s wr => ∃ j : Nat, j ≤ P1.vn ∧ s = .int .i64 j ∧ DI3 P1 F w4 wr j) (fun t _ => P1.vn - (intOf t).toNat)
          case atStart => exact ⟨0, Nat.zero_le _, rfl, _, _, _, _, DQ, G0, KU⟩
          case round =>
            clear G0 KU DQ hG e5
            obtain ⟨j, hj, rfl, vv, rv, tv, x, DQ, hG, KU⟩ := hrel
            by_cases hlt : j < P1.vn
            · have hkI : (j : Int) < (P1.vn : Int) := by omega
              have hkI2 : (j : Int) * 13 = ((j * 13 : Nat) : Int) := by omega
              have hsU := KU.size
              have hTBw := HTB.out _ _ KU
              rcases (HTG.out _ _ KU).v with h00 | ⟨vg, hva, hev⟩
              · omega
              obtain ⟨p1, a1, n1, k1, d1, m1, l1, p2, a2, n2, k2, d2, m2, l2, p3, a3, n3, k3, d3, m3, l3, hc13, GV1, GV2, GV3⟩ := hev j hlt
              obtain ⟨nm, enm⟩ : ∃ nm, nm = (P1.V j).nm := ⟨_, rfl⟩
              obtain ⟨hl, ehl⟩ : ∃ hl, hl = (P1.V j).hlo := ⟨_, rfl⟩
              obtain ⟨hh, ehh⟩ : ∃ hh, hh = (P1.V j).hhi := ⟨_, rfl⟩
              obtain ⟨wh, ewh⟩ : ∃ wh, wh = (P1.V j).whole := ⟨_, rfl⟩
              rw [← enm, ← ehl, ← ehh, ← ewh] at hc13
              have r0 := hc13 0 _ rfl; have r1 := hc13 1 _ rfl; have r2 := hc13 2 _ rfl; have r3 := hc13 3 _ rfl; have r4 := hc13 4 _ rfl; have r5 := hc13 5 _ rfl; have r6 := hc13 6 _ rfl; have r7 := hc13 7 _ rfl; have r8 := hc13 8 _ rfl; have r9 := hc13 9 _ rfl; have r10 := hc13 10 _ rfl; have r11 := hc13 11 _ rfl; have r12 := hc13 12 _ rfl
              have HE : Hid (hl = (P1.V j).hlo ∧ hh = (P1.V j).hhi) := ⟨ehl, ehh⟩
              obtain ⟨vb, vo, hVa⟩ := hP1.var hlt
              have hZj : P1.ZV j ≤ tot P1.ZV P1.vn := tot_le hlt
              have hSr : 1 ≤ P1.ZV j ∧ P1.ZV j ≤ 1048576 := ⟨hVa.s1, by omega⟩
              have slo := hVa.slo
              have shi := hVa.shi
              have hDl := DQ.lt
              have hvb := hG.vnb
              have htj : tot P1.ZV j ≤ tot P1.ZV P1.vn := tot_mono P1.ZV hj
              have hmb : ∀ q, q < P1.vn → (x.R q).m ≤ 2 * tot P1.ZR P1.rn + 4 := fun q hq => Nat.le_trans (hG.mb hq) (by split <;> omega)
              have hva' : P1.va = some ⟨vg, 0, none⟩ := hva
              clear hc13 hev enm ehl ehh ewh hva hVa GV1
              rw [Nat.add_zero] at r0
              have N := box_new wr #[.string nm, .bool p1, .slice a1 n1 k1, .slice d1 m1 l1, .bool hl, .bool p2, .slice a2 n2 k2, .slice d2 m2 l2, .bool hh, .bool p3, .slice a3 n3 k3, .slice d3 m3 l3, .bool wh] 54
              have n0' := N 0 _ rfl; have n1' := N 1 _ rfl; have n2' := N 2 _ rfl; have n3' := N 3 _ rfl; have n4' := N 4 _ rfl; have n5' := N 5 _ rfl; have n6' := N 6 _ rfl; have n7' := N 7 _ rfl; have n8' := N 8 _ rfl; have n9' := N 9 _ rfl; have n10' := N 10 _ rfl; have n11' := N 11 _ rfl; have n12' := N 12 _ rfl
              have hz := bel_d0 wr (.cells #[.string nm, .bool p1, .slice a1 n1 k1, .slice d1 m1 l1, .bool hl, .bool p2, .slice a2 n2 k2, .slice d2 m2 l2, .bool hh, .bool p3, .slice a3 n3 k3, .slice d3 m3 l3, .bool wh] 54)
              have hsW : (wr.alloc (.cells #[.string nm, .bool p1, .slice a1 n1 k1, .slice d1 m1 l1, .bool hl, .bool p2, .slice a2 n2 k2, .slice d2 m2 l2, .bool hh, .bool p3, .slice a3 n3 k3, .slice d3 m3 l3, .bool wh] 54)).heap.size = wr.heap.size + 1 := by simp
              have D2 := DQ.below hz
              have GL2 := (GV2.below hz).fit slo
              have GH2 := (GV3.below hz).fit shi
              have T2 := hTBw.1.below hz
              have TP2 := hTBw.2.below hz
              have KU2 := KU.bel hz
              go_wp2_with fail
              have BU := N
              clear r0 n0' r1 n1' r2 n2' r3 n3' r4 n4' r5 n5' r6 n6' r7 n7' r8 n8' r9 n9' r10 n10' r11 n11' r12 n12' N GV2 GV3 hTBw KU DQ hz
              generalize wr.alloc (.cells #[.string nm, .bool p1, .slice a1 n1 k1, .slice d1 m1 l1, .bool hl, .bool p2, .slice a2 n2 k2, .slice d2 m2 l2, .bool hh, .bool p3, .slice a3 n3 k3, .slice d3 m3 l3, .bool wh] 54) = W2 at *
              have BZ0 := BU.below (bel_d1 W2)
              have DZ0 := D2.below (bel_d1 W2)
              have hd0 := bel_d1 W2
              have hcF : (W2.drew.cell? ⟨wr.heap.size, 4, none⟩ = some (.bool hl) ∧ W2.drew.cell? ⟨wr.heap.size, 5, none⟩ = some (.bool p2) ∧ W2.drew.cell? ⟨wr.heap.size, 6, none⟩ = some (.slice a2 n2 k2) ∧ W2.drew.cell? ⟨wr.heap.size, 7, none⟩ = some (.slice d2 m2 l2) ∧ W2.drew.cell? ⟨wr.heap.size, 8, none⟩ = some (.bool hh) ∧ W2.drew.cell? ⟨wr.heap.size, 9, none⟩ = some (.bool p3) ∧ W2.drew.cell? ⟨wr.heap.size, 10, none⟩ = some (.slice a3 n3 k3) ∧ W2.drew.cell? ⟨wr.heap.size, 11, none⟩ = some (.slice d3 m3 l3)) := ⟨BZ0 4 _ rfl, BZ0 5 _ rfl, BZ0 6 _ rfl, BZ0 7 _ rfl, BZ0 8 _ rfl, BZ0 9 _ rfl, BZ0 10 _ rfl, BZ0 11 _ rfl⟩
              have HF0 := hcF
              clear hcF
              refine wp_region_noPanic (wp_region_guard (fun _ w' => w'.cell? ⟨wr.heap.size, 4, none⟩ = some (.bool hl) ∧ w'.cell? ⟨wr.heap.size, 5, none⟩ = some (.bool p2) ∧ w'.cell? ⟨wr.heap.size, 6, none⟩ = some (.slice a2 n2 k2) ∧ w'.cell? ⟨wr.heap.size, 7, none⟩ = some (.slice d2 m2 l2) ∧ w'.cell? ⟨wr.heap.size, 8, none⟩ = some (.bool hh) ∧ w'.cell? ⟨wr.heap.size, 9, none⟩ = some (.bool p3) ∧ w'.cell? ⟨wr.heap.size, 10, none⟩ = some (.slice a3 n3 k3) ∧ w'.cell? ⟨wr.heap.size, 11, none⟩ = some (.slice d3 m3 l3)) (by as_aux_lemma => kernel_rfl) ?_)
              have hc0 : (W2.drew.cell? ⟨wr.heap.size, 4, none⟩ = some (.bool hl) ∧ W2.drew.cell? ⟨wr.heap.size, 5, none⟩ = some (.bool p2) ∧ W2.drew.cell? ⟨wr.heap.size, 6, none⟩ = some (.slice a2 n2 k2) ∧ W2.drew.cell? ⟨wr.heap.size, 7, none⟩ = some (.slice d2 m2 l2) ∧ W2.drew.cell? ⟨wr.heap.size, 8, none⟩ = some (.bool hh) ∧ W2.drew.cell? ⟨wr.heap.size, 9, none⟩ = some (.bool p3) ∧ W2.drew.cell? ⟨wr.heap.size, 10, none⟩ = some (.slice a3 n3 k3) ∧ W2.drew.cell? ⟨wr.heap.size, 11, none⟩ = some (.slice d3 m3 l3)) := HF0
              generalize W2.drew = z0 at *
              refine wpAnyG.take 0 (v := .int .i64 (j : Nat)) (by decide) (by as_aux_lemma => kernel_rfl) (fun _ _ _ h => h) 10 _ (by rfl) (fun _ _ => Iff.rfl) (fun _ _ _ h => h) (by as_aux_lemma => kernel_rfl) (by as_aux_lemma => kernel_rfl) (by as_aux_lemma => kernel_rfl) (by rfl) ?y0 ((fun _ h => h) _ hc0) (by rfl) ?_
              case y0 =>
                rintro w' ⟨q0, q1, q2, q3, q4, q5, q6, q7⟩
                simp only [List.getElem_toArray, List.getElem_cons_zero]
                go_simp
              simp only [List.getElem_toArray, List.getElem_cons_zero, Act.put, List.setIfInBounds_toArray, List.set_cons_zero, List.set_cons_succ]
              refine wpAnyG.take 1 (v := .int .i64 (j : Nat)) (by decide) (by as_aux_lemma => kernel_rfl) (fun _ _ _ h => h) 3 _ (by rfl) (fun _ _ => Iff.rfl) (fun _ _ _ h => h) (by as_aux_lemma => kernel_rfl) (by as_aux_lemma => kernel_rfl) (by as_aux_lemma => kernel_rfl) (by rfl) ?y1 ((fun _ h => h) _ hc0) (by rfl) ?_
              case y1 =>
                rintro w' ⟨q0, q1, q2, q3, q4, q5, q6, q7⟩
                simp only [List.getElem_toArray, List.getElem_cons_zero, List.getElem_cons_succ]
                go_simp
              simp only [List.getElem_toArray, List.getElem_cons_zero, List.getElem_cons_succ, Act.put, List.setIfInBounds_toArray, List.set_cons_zero, List.set_cons_succ]
              refine wpAnyG.take 5 (v := .pointer (some ⟨wr.heap.size, 4, none⟩)) (by decide) (by as_aux_lemma => kernel_rfl) (fun _ _ _ h => h) 6 _ (by rfl) (fun _ _ => Iff.rfl) (fun _ _ _ h => h) (by as_aux_lemma => kernel_rfl) (by as_aux_lemma => kernel_rfl) (by as_aux_lemma => kernel_rfl) (by rfl) ?y5 ((fun _ h => h) _ hc0) (by rfl) ?_
              case y5 =>
                rintro w' ⟨q0, q1, q2, q3, q4, q5, q6, q7⟩
                simp only [List.getElem_toArray, List.getElem_cons_zero, List.getElem_cons_succ]
                go_simp
              simp only [List.getElem_toArray, List.getElem_cons_zero, List.getElem_cons_succ, Act.put, List.setIfInBounds_toArray, List.set_cons_zero, List.set_cons_succ]
              refine wpAnyG.take 6 (v := .agg #[.bool hl, .bool p2, .slice a2 n2 k2, .slice d2 m2 l2]) (by decide) (by as_aux_lemma => kernel_rfl) (fun _ _ _ h => h) 9 _ (by rfl) (fun _ _ => Iff.rfl) (fun _ _ _ h => h) (by as_aux_lemma => kernel_rfl) (by as_aux_lemma => kernel_rfl) (by as_aux_lemma => kernel_rfl) (by rfl) ?y6 ((fun _ h => h) _ hc0) (by rfl) ?_
              case y6 =>
                rintro w' ⟨q0, q1, q2, q3, q4, q5, q6, q7⟩
                simp only [List.getElem_toArray, List.getElem_cons_zero, List.getElem_cons_succ]
                go_simp
              simp only [List.getElem_toArray, List.getElem_cons_zero, List.getElem_cons_succ, Act.put, List.setIfInBounds_toArray, List.set_cons_zero, List.set_cons_succ]
              refine wpAnyG.take 7 (v := .pointer (some ⟨wr.heap.size, 8, none⟩)) (by decide) (by as_aux_lemma => kernel_rfl) (fun _ _ _ h => h) 8 _ (by rfl) (fun _ _ => Iff.rfl) (fun _ _ _ h => h) (by as_aux_lemma => kernel_rfl) (by as_aux_lemma => kernel_rfl) (by as_aux_lemma => kernel_rfl) (by rfl) ?y7 ((fun _ h => h) _ hc0) (by rfl) ?_
              case y7 =>
                rintro w' ⟨q0, q1, q2, q3, q4, q5, q6, q7⟩
                simp only [List.getElem_toArray, List.getElem_cons_zero, List.getElem_cons_succ]
                go_simp
              simp only [List.getElem_toArray, List.getElem_cons_zero, List.getElem_cons_succ, Act.put, List.setIfInBounds_toArray, List.set_cons_zero, List.set_cons_succ]
              refine wpAnyG.take 8 (v := .agg #[.bool hh, .bool p3, .slice a3 n3 k3, .slice d3 m3 l3]) (by decide) (by as_aux_lemma => kernel_rfl) (fun _ _ _ h => h) 9 _ (by rfl) (fun _ _ => Iff.rfl) (fun _ _ _ h => h) (by as_aux_lemma => kernel_rfl) (by as_aux_lemma => kernel_rfl) (by as_aux_lemma => kernel_rfl) (by rfl) ?y8 ((fun _ h => h) _ hc0) (by rfl) ?_
              case y8 =>
                rintro w' ⟨q0, q1, q2, q3, q4, q5, q6, q7⟩
                simp only [List.getElem_toArray, List.getElem_cons_zero, List.getElem_cons_succ]
                go_simp
              simp only [List.getElem_toArray, List.getElem_cons_zero, List.getElem_cons_succ, Act.put, List.setIfInBounds_toArray, List.set_cons_zero, List.set_cons_succ]
              refine wpAnyG.one 2 (by as_aux_lemma => kernel_rfl) (by decide) (by rfl) (fun K hK => ?_)
              simp only [List.getElem_toArray, List.getElem_cons_zero, List.getElem_cons_succ]
              go_simp
              refine (ofQ 1 z0 (by decide) (by decide)).mono ?_
              rintro e z1 ⟨f1, c1, j1, k1', d1', m1', l1', rfl, G1, hk1⟩
              have BZ1 := BZ0.below hk1
              have DZ1 := DZ0.below hk1
              have hcF : (z1.cell? ⟨wr.heap.size, 4, none⟩ = some (.bool hl) ∧ z1.cell? ⟨wr.heap.size, 5, none⟩ = some (.bool p2) ∧ z1.cell? ⟨wr.heap.size, 6, none⟩ = some (.slice a2 n2 k2) ∧ z1.cell? ⟨wr.heap.size, 7, none⟩ = some (.slice d2 m2 l2) ∧ z1.cell? ⟨wr.heap.size, 8, none⟩ = some (.bool hh) ∧ z1.cell? ⟨wr.heap.size, 9, none⟩ = some (.bool p3) ∧ z1.cell? ⟨wr.heap.size, 10, none⟩ = some (.slice a3 n3 k3) ∧ z1.cell? ⟨wr.heap.size, 11, none⟩ = some (.slice d3 m3 l3)) := ⟨BZ1 4 _ rfl, BZ1 5 _ rfl, BZ1 6 _ rfl, BZ1 7 _ rfl, BZ1 8 _ rfl, BZ1 9 _ rfl, BZ1 10 _ rfl, BZ1 11 _ rfl⟩
              have hc1 := hcF
              clear hcF
              dsimp only
              refine hK _ _ ((fun _ h => h) _ hc1) ?_
              clear hK K
              refine wpAnyG.take 3 (v := .agg #[.int .i64 (j : Nat), .bool f1, .slice c1 j1 k1', .slice d1' m1' l1']) (by decide) (by as_aux_lemma => kernel_rfl) (fun _ _ _ h => h) 4 _ (by rfl) (fun _ _ => Iff.rfl) (fun _ _ _ h => h) (by as_aux_lemma => kernel_rfl) (by as_aux_lemma => kernel_rfl) (by as_aux_lemma => kernel_rfl) (by rfl) ?y3 ((fun _ h => h) _ hc1) (by rfl) ?_
              case y3 =>
                rintro w' ⟨q0, q1, q2, q3, q4, q5, q6, q7⟩
                simp only [List.getElem_toArray, List.getElem_cons_zero, List.getElem_cons_succ]
                go_simp
              simp only [List.getElem_toArray, List.getElem_cons_zero, List.getElem_cons_succ, Act.put, List.setIfInBounds_toArray, List.set_cons_zero, List.set_cons_succ]
              refine wpAnyG.one 4 (by as_aux_lemma => kernel_rfl) (by decide) (by rfl) (fun K hK => ?_)
              simp only [List.getElem_toArray, List.getElem_cons_zero, List.getElem_cons_succ]
              go_simp
              have hy := bel_d0 z1 (.cells #[.int .i64 (j : Nat), .bool f1, .slice c1 j1 k1', .slice d1' m1' l1'] 56)
              have BX := box_new z1 #[.int .i64 (j : Nat), .bool f1, .slice c1 j1 k1', .slice d1' m1' l1'] 56
              have hs4 : (z1.alloc (.cells #[.int .i64 (j : Nat), .bool f1, .slice c1 j1 k1', .slice d1' m1' l1'] 56)).heap.size = z1.heap.size + 1 := by simp
              have hs1 := hk1.size
              have BZ5 := BZ1.below hy
              have DZ5 := DZ1.below hy
              have G5 := (G1.mono (Nat.zero_le _)).below hy
              have hbz5 := bel_tr (bel_tr hd0 hk1) hy
              have GL5 := GL2.below hbz5
              have GH5 := GH2.below hbz5
              have T5 := T2.below hbz5
              have TP5 := TP2.below hbz5
              have KU5 := KU2.bel hbz5
              generalize z1.alloc (.cells #[.int .i64 (j : Nat), .bool f1, .slice c1 j1 k1', .slice d1' m1' l1'] 56) = z5 at *
              have hcF : (z5.cell? ⟨wr.heap.size, 4, none⟩ = some (.bool hl) ∧ z5.cell? ⟨wr.heap.size, 5, none⟩ = some (.bool p2) ∧ z5.cell? ⟨wr.heap.size, 6, none⟩ = some (.slice a2 n2 k2) ∧ z5.cell? ⟨wr.heap.size, 7, none⟩ = some (.slice d2 m2 l2) ∧ z5.cell? ⟨wr.heap.size, 8, none⟩ = some (.bool hh) ∧ z5.cell? ⟨wr.heap.size, 9, none⟩ = some (.bool p3) ∧ z5.cell? ⟨wr.heap.size, 10, none⟩ = some (.slice a3 n3 k3) ∧ z5.cell? ⟨wr.heap.size, 11, none⟩ = some (.slice d3 m3 l3)) := ⟨BZ5 4 _ rfl, BZ5 5 _ rfl, BZ5 6 _ rfl, BZ5 7 _ rfl, BZ5 8 _ rfl, BZ5 9 _ rfl, BZ5 10 _ rfl, BZ5 11 _ rfl⟩
              refine hK _ _ hcF ?_
              clear hK K
              refine wpAnyG.one 9 (by as_aux_lemma => kernel_rfl) (by decide) (by rfl) (fun K hK => ?_)
              simp only [List.getElem_toArray, List.getElem_cons_zero, List.getElem_cons_succ]
              go_simp
              refine hK _ _ hcF ?_
              clear hK K
              refine wpAnyG.one 10 (by as_aux_lemma => kernel_rfl) (by decide) (by rfl) (fun K hK => ?_)
              simp only [List.getElem_toArray, List.getElem_cons_zero, List.getElem_cons_succ]
              go_simp
              have LT5 : LTG z5 (some ⟨z1.heap.size, 0, none⟩) 1 (vt1 j) 1 := .inr ⟨z1.heap.size, rfl, fun q hq => by
                obtain rfl : q = 0 := by omega
                exact ⟨f1, c1, j1, k1', d1', m1', l1', BX 0 _ rfl, BX 1 _ rfl, BX 2 _ rfl, BX 3 _ rfl, G5⟩⟩
              have nBB : ¬ (⟨F, vv, rv, P1.vn, tv⟩ : Fp).has wr.heap.size := fun e => by have := (hDl _ e).2; omega
              have hd1 := hd0.size
              refine (addBndQ (x := x) (Z := fun _ => 1) (kd := ⟨#[118]⟩) j z5 DZ5 (by omega) GL5 GH5 ⟨hSr.1, by omega⟩ LT5 (fun _ g hg e => by
                simp only [Option.some.injEq, Addr.mk.injEq, and_true] at hg
                have := (hDl g e).2
                omega) (fun q _ => ⟨by show (0 : Int) ≤ (j : Int); omega, by show (j : Int) < (P1.vn : Int); omega⟩) (fun q _ => ⟨sz_one1, Nat.le_refl _, by omega⟩) (by omega) (by omega) (by decide) (by omega) (show P1.vn ≤ 10000000 by omega) (fun q hq => by have := hmb q hq; omega) T5 TP5 hTF).mono ?_
              rintro e z6 ⟨rfl, ⟨D', vv', rv', rn', tv'⟩, nP, nM, hnP, hnM, e61, e62, DN, KN⟩
              have BZ6 := BZ5.kf KN nBB
              have hcE := hcF
              clear hcF
              have hcF : (z6.cell? ⟨wr.heap.size, 4, none⟩ = some (.bool hl) ∧ z6.cell? ⟨wr.heap.size, 5, none⟩ = some (.bool p2) ∧ z6.cell? ⟨wr.heap.size, 6, none⟩ = some (.slice a2 n2 k2) ∧ z6.cell? ⟨wr.heap.size, 7, none⟩ = some (.slice d2 m2 l2) ∧ z6.cell? ⟨wr.heap.size, 8, none⟩ = some (.bool hh) ∧ z6.cell? ⟨wr.heap.size, 9, none⟩ = some (.bool p3) ∧ z6.cell? ⟨wr.heap.size, 10, none⟩ = some (.slice a3 n3 k3) ∧ z6.cell? ⟨wr.heap.size, 11, none⟩ = some (.slice d3 m3 l3)) := ⟨BZ6 4 _ rfl, BZ6 5 _ rfl, BZ6 6 _ rfl, BZ6 7 _ rfl, BZ6 8 _ rfl, BZ6 9 _ rfl, BZ6 10 _ rfl, BZ6 11 _ rfl⟩
              dsimp only
              refine hK _ _ hcF ?_
              clear hK K
              refine wpAnyG.done (by as_aux_lemma => kernel_rfl) (NoPanic.normal ?_)
              have e61' : F = D' := e61.symm
              subst e61'
              have e62' : P1.vn = rn' := e62.symm
              subst e62'
              have KT := KU5.trans KN
              have GN := hG.bnd (nP := nP) (nM := nM) (hl := hl) (hh := hh) (lo := (P1.V j).lo) (hi := (P1.V j).hi) (t := vt1 j) (Z := fun _ => 1) (nt := 1) hnP hnM slo shi hSr (fun q hq => by show (0 : Int) ≤ (j : Int); omega) (fun q hq => Nat.le_refl _) (fun n X hX => by
                have h := hX.2.1 j hlt
                rw [vt1_sum j X P1.vn hlt, HE.out.1, HE.out.2]
                exact h)
              have GN2 : DG P1 (!P1.mx) (x.bnd (!P1.mx) nP nM hl (P1.V j).lo hh (P1.V j).hi (P1.ZV j) (vt1 j) (fun _ => 1) 1) (2 * tot P1.ZR P1.rn + 2 * tot P1.ZV (j + 1)) (fun q => 2 * tot P1.ZR P1.rn + if q < j + 1 then 4 else 0) := GN.mono (by show 2 * tot P1.ZR P1.rn + 2 * tot P1.ZV j + 2 * (P1.ZV j + 1) ≤ 2 * tot P1.ZR P1.rn + 2 * (tot P1.ZV j + P1.ZV j + 1); omega) (fun q _ => by
                rw [vt1_zs]
                split <;> split <;> split <;> omega)
              clear D2 GL2 GH2 T2 TP2 KU2 KN GN hG hmb hvb slo shi HE BZ0 BZ1 BZ5 BZ6 DZ0 DZ1 DZ5 GL5 GH5 T5 TP5 KU5 G1 G5 LT5 BX hc0 hc1 hcE hcF hd0 hd1 HF0 hbz5 hy hk1 hDl BU hs1 hs4 nBB
              try rw [← hva']
              clear hva'
              go_wp2
              go_roundw
              case rel => first | exact ⟨j + 1, by omega, by go_num, _, _, _, _, DN, GN2, KT⟩ | ((repeat apply Exists.intro); refine ⟨?_, rfl⟩; exact ⟨j + 1, by omega, by go_num, _, _, _, _, DN, GN2, KT⟩)
              case measure => simp [intOf]; omega
            · have hkI : ¬ (j : Int) < (P1.vn : Int) := by omega
              obtain rfl : j = P1.vn := by omega
              obtain ⟨Ev, sv, _⟩ := id DQ.v
              obtain ⟨va', vc', evv, _⟩ := sv.form
              obtain ⟨Er, sr, _⟩ := id DQ.r
              obtain ⟨ra', rc', err, _⟩ := sr.form
              have evv' : vv = .slice va' x.vn vc' := evv
              have err' : rv = .slice ra' P1.vn rc' := err
              subst evv' err'
              have hvb := hG.vnb
              have hvx : x.vn ≤ 1048576 := by omega
              have hPq := HPQ.out _ _ KU
              have T9 := (HTB.out _ _ KU).1
              have BRK : ∀ q, q < P1.vn → (fun q => 2 * tot P1.ZR P1.rn + if q < P1.vn then 4 else 0) q ≤ 2 * P1.K + 100 := fun q _ => by dsimp only; split <;> omega
              have hPS := hP1.s1
              have hPd := DU.prob (BR := 2 * P1.K + 100) DQ hG rfl hPq.k hPS hvx ⟨by omega, by omega, by omega⟩ BRK
              have hTK : TK (dprob (!P1.mx) P1.p P1.a P1.na P1.ca P1.d P1.nd P1.cd va' vc' ra' rc' P1.k P1.S x P1.vn (2 * P1.K + 100)) := ⟨by show (0 : Nat) ≤ _; omega, by show P1.S ≤ _; omega, hvx, hvn1, fun q hq => by have := (hG.vz q hq).2.1.2; show (x.V q).Z + 60 ≤ _; omega, fun q hq => by show 2 * P1.K + 100 ≤ _; omega⟩
              have R29 := R2.kf KU (fun h => by have := f0_has h; omega)
              have hb9 : Below w.heap.size w _ := hb4.trans ((HLOW.out _ _ KU).mono (by omega))
              have u0 : wr.cell? ⟨F, 0, none⟩ = some (.bool (!P1.mx)) := (DQ.rw.cell 0).trans rfl; have u1 : wr.cell? ⟨F, 1, none⟩ = some (.string ⟨#[]⟩) := (DQ.rw.cell 1).trans rfl; have u2 : wr.cell? ⟨F, 2, none⟩ = some (.bool P1.p) := (DQ.rw.cell 2).trans rfl; have u3 : wr.cell? ⟨F, 3, none⟩ = some (.slice P1.a P1.na P1.ca) := (DQ.rw.cell 3).trans rfl; have u4 : wr.cell? ⟨F, 4, none⟩ = some (.slice P1.d P1.nd P1.cd) := (DQ.rw.cell 4).trans rfl; have u5 : wr.cell? ⟨F, 5, none⟩ = some (.slice va' x.vn vc') := (DQ.rw.cell 5).trans rfl; have u6 : wr.cell? ⟨F, 6, none⟩ = some (.slice ra' P1.vn rc') := (DQ.rw.cell 6).trans rfl
              go_wp2_with fail
              clear u0 u1 u2 u3 u4 u5 u6
              refine (tidyQn (dprob (!P1.mx) P1.p P1.a P1.na P1.ca P1.d P1.nd P1.cd va' vc' ra' rc' P1.k P1.S x P1.vn (2 * P1.K + 100)) _ hPd hTK T9).mono ?_
              rintro e w8 ⟨v, rfl, hTO, hx8⟩
              obtain ⟨f, c, n, k, c', n', k', va, vc, ra, rc, _, _, ev, _⟩ := id hTO
              subst ev
              replace R29 := R29.below hx8
              go_wp2_with (refine R29.put #[.bool (!P1.mx), .string ⟨#[]⟩, .bool f, .slice c n k, .slice c' n' k', .slice va x.vn vc, .slice ra P1.vn rc] rfl _ _ rfl rfl rfl prbI rfl (by simp [Value.oneCell']) ?_)
              intro w9 R9 O9
              replace hTO := hTO.off R29 O9
              obtain ⟨Q, eQ, hQ, htQ, _⟩ := hTO.probn hPd hvx
              have hDL : DL P Q := DL.of ht1 hG htQ (by have := HKK.out; omega) hvx (by have h := ht1.vn; omega) (by omega) (by have := HKK.out; omega)
              have hbE : Below w.heap.size w w9 := (bel_tr hb9 hx8).trans (O9.below (by omega))
              clear hTO O9 R29 hPd hTK DQ hG
              go_wp2
              exact bodyPost_ret (R9.ret1 Tryz.results14 _ rfl Tryz.underlying31 prbI) rfl ⟨Q, congrArg Ending.returned eQ, hQ, hDL, hbE⟩
end Go.Proofs.YtkgnbcbcgnlodaaGreatDoor

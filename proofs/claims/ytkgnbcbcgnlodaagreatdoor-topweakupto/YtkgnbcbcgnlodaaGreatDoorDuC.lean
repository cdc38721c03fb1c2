import Derived.Test.YtkgnbcbcgnlodaaGreatDoorDuB
import Derived.Test.YtkgnbcbcgnlodaaGreatDoorItA
import Derived.Test.YtkgnbcbcgnlodaaGreatDoorPrEAll
import Derived.Laws.Tables
namespace Go.Proofs.YtkgnbcbcgnlodaaGreatDoor
open Go.RowKit

theorem bndI4 : (Tryz.prog.info? 52).map (·.size) = some 4 := by kernel_rfl
set_option maxRecDepth 100000 in
set_option maxHeartbeats 16000000 in
/-- span.addBounds, of a dual with Max true -/
theorem addBndT {F : Nat} {f : Fp} {c0 c1 c2 : Value} {x : DS} {S : Nat} {kd nr : ByteArray} {ta : Option Addr} {nt tc St : Nat} {t : Nat → PT} {Z : Nat → Nat} {hl : Bool} {p2 : Bool} {a2 : Option Addr} {n2 k2 : Nat} {d2 : Option Addr} {m2 l2 : Nat} {lo : Rat} {hh : Bool} {p3 : Bool} {a3 : Option Addr} {n3 k3 : Nat} {d3 : Option Addr} {m3 l3 : Nat} {hi : Rat} {Sr : Nat} (pl : Nat) (w : World) (hD : DX w F f true c0 c1 c2 x S) (hF : F ≤ w.heap.size) (hlo : GR w 0 p2 a2 n2 k2 d2 m2 l2 lo Sr) (hhi : GR w 0 p3 a3 n3 k3 d3 m3 l3 hi Sr) (hSr : 1 ≤ Sr ∧ Sr ≤ 7000000) (hL : LTG w ta nt t St) (hLn : nt ≠ 0 → ∀ g, ta = some ⟨g, 0, none⟩ → ¬ f.has g) (hv : ∀ q, q < nt → 0 ≤ (t q).var ∧ (t q).var < (f.rn : Int)) (hZ : ∀ q, q < nt → SzR (t q).coef (Z q) ∧ 1 ≤ Z q ∧ Z q ≤ 7000000)
    (hnt : nt ≤ 1048576) (hpl : pl ≤ 1000000000) (hkd : kd.size ≤ 10) (hvn : x.vn ≤ 5000000) (hrn : f.rn ≤ 10000000) (hm : ∀ j, j < f.rn → (x.R j).m ≤ 50000000) (hT : TB w) (hTP : TP w) (hTF : 3 < F) :
    Calls Tryz.prog 46 #[.pointer (some ⟨f.D, 0, none⟩), .string kd, .int .i64 (pl : Int), .agg #[.string nr, .slice ta nt tc, .bool hl, .bool p2, .slice a2 n2 k2, .slice d2 m2 l2, .bool hh, .bool p3, .slice a3 n3 k3, .slice d3 m3 l3]] w fun e w' => e = .returned (.tuple #[]) ∧ ∃ (f' : Fp) (nP nM : ByteArray), nP.size ≤ 60 ∧ nM.size ≤ 60 ∧ f'.D = f.D ∧ f'.rn = f.rn ∧ DX w' F f' true c0 c1 c2 ((x.opt hl nP false lo Sr t Z nt).opt hh nM true hi Sr t Z nt) S ∧ KF f.has f'.has w w' := by
  have BU := box_new w #[.string nr, .slice ta nt tc, .bool hl, .bool p2, .slice a2 n2 k2, .slice d2 m2 l2, .bool hh, .bool p3, .slice a3 n3 k3, .slice d3 m3 l3] 59
  have hb0 := bel_d0 w (.cells #[.string nr, .slice ta nt tc, .bool hl, .bool p2, .slice a2 n2 k2, .slice d2 m2 l2, .bool hh, .bool p3, .slice a3 n3 k3, .slice d3 m3 l3] 59)
  have hs0 : (w.alloc (.cells #[.string nr, .slice ta nt tc, .bool hl, .bool p2, .slice a2 n2 k2, .slice d2 m2 l2, .bool hh, .bool p3, .slice a3 n3 k3, .slice d3 m3 l3] 59)).heap.size = w.heap.size + 1 := by simp
  have hDl := hD.lt
  go_enter Tryz.func46, Tryz.ntmps46
  go_wp2_with fail
  generalize w.alloc (.cells #[.string nr, .slice ta nt tc, .bool hl, .bool p2, .slice a2 n2 k2, .slice d2 m2 l2, .bool hh, .bool p3, .slice a3 n3 k3, .slice d3 m3 l3] 59) = W0 at *
  have HBX : ∀ w', Below W0.heap.size W0 w' → (w'.cell? ⟨w.heap.size, 2, none⟩ = some (.bool hl) ∧ w'.cell? ⟨w.heap.size, 3, none⟩ = some (.bool p2) ∧ w'.cell? ⟨w.heap.size, 4, none⟩ = some (.slice a2 n2 k2) ∧ w'.cell? ⟨w.heap.size, 5, none⟩ = some (.slice d2 m2 l2) ∧ w'.cell? ⟨w.heap.size, 6, none⟩ = some (.bool hh) ∧ w'.cell? ⟨w.heap.size, 7, none⟩ = some (.bool p3) ∧ w'.cell? ⟨w.heap.size, 8, none⟩ = some (.slice a3 n3 k3) ∧ w'.cell? ⟨w.heap.size, 9, none⟩ = some (.slice d3 m3 l3)) := fun w' h => ⟨(BU.below h) 2 _ rfl, (BU.below h) 3 _ rfl, (BU.below h) 4 _ rfl, (BU.below h) 5 _ rfl, (BU.below h) 6 _ rfl, (BU.below h) 7 _ rfl, (BU.below h) 8 _ rfl, (BU.below h) 9 _ rfl⟩
  refine wp_cutT (fun a0 a' w' => ∃ (u1 u2 u3 u4 : Value) (b8 b9 : Nat), a' = ((((((a0.put (some 11) u1).put (some 12) u2).put (some 13) u3).put (some 14) u4).put (some 8) (.pointer (some ⟨b8, 0, none⟩))).put (some 9) (.pointer (some ⟨b9, 0, none⟩))) ∧ Rw 52 w' b8 #[.bool hl, .bool p2, .slice a2 n2 k2, .slice d2 m2 l2] ∧ Rw 52 w' b9 #[.bool hh, .bool p3, .slice a3 n3 k3, .slice d3 m3 l3] ∧ b8 ≠ b9 ∧ W0.heap.size ≤ b8 ∧ W0.heap.size ≤ b9 ∧ Below W0.heap.size W0 w') ?_ ?_
  · refine wp_region_noPanic (wp_region_guard (Till 7 7 (fun w' => w'.cell? ⟨w.heap.size, 2, none⟩ = some (.bool hl) ∧ w'.cell? ⟨w.heap.size, 3, none⟩ = some (.bool p2) ∧ w'.cell? ⟨w.heap.size, 4, none⟩ = some (.slice a2 n2 k2) ∧ w'.cell? ⟨w.heap.size, 5, none⟩ = some (.slice d2 m2 l2) ∧ w'.cell? ⟨w.heap.size, 6, none⟩ = some (.bool hh) ∧ w'.cell? ⟨w.heap.size, 7, none⟩ = some (.bool p3) ∧ w'.cell? ⟨w.heap.size, 8, none⟩ = some (.slice a3 n3 k3) ∧ w'.cell? ⟨w.heap.size, 9, none⟩ = some (.slice d3 m3 l3)) (fun _ => True)) (by as_aux_lemma => kernel_rfl) ?_)
    have hc0 : Below W0.heap.size W0 W0.drew := bel_d1 _
    generalize W0.drew = z0 at *
    refine wpAnyG.take 0 (v := .pointer (some ⟨w.heap.size, 2, none⟩)) (by decide) (by as_aux_lemma => kernel_rfl) (fun _ _ _ h => h) 7 _ (by rfl) (till_ind (by decide) (by decide)) (fun L w' h1 h2 => h2.1 h1) (by as_aux_lemma => kernel_rfl) (by as_aux_lemma => kernel_rfl) (by as_aux_lemma => kernel_rfl) (by rfl) ?y0 ⟨fun _ => HBX _ hc0, fun _ => trivial⟩ (by rfl) ?_
    case y0 =>
      rintro w' ⟨q2, q3, q4, q5, q6, q7, q8, q9⟩
      simp only [List.getElem_toArray, List.getElem_cons_zero]
      go_simp
    simp only [List.getElem_toArray, List.getElem_cons_zero, Act.put, List.setIfInBounds_toArray, List.set_cons_zero, List.set_cons_succ]
    refine wpAnyG.take 1 (v := .agg #[.bool hl, .bool p2, .slice a2 n2 k2, .slice d2 m2 l2]) (by decide) (by as_aux_lemma => kernel_rfl) (fun _ _ _ h => h) 7 _ (by rfl) (till_ind (by decide) (by decide)) (fun L w' h1 h2 => h2.1 h1) (by as_aux_lemma => kernel_rfl) (by as_aux_lemma => kernel_rfl) (by as_aux_lemma => kernel_rfl) (by rfl) ?y1 ⟨fun _ => HBX _ hc0, fun _ => trivial⟩ (by rfl) ?_
    case y1 =>
      rintro w' ⟨q2, q3, q4, q5, q6, q7, q8, q9⟩
      simp only [List.getElem_toArray, List.getElem_cons_zero, List.getElem_cons_succ]
      go_simp
    simp only [List.getElem_toArray, List.getElem_cons_zero, List.getElem_cons_succ, Act.put, List.setIfInBounds_toArray, List.set_cons_zero, List.set_cons_succ]
    refine wpAnyG.take 2 (v := .pointer (some ⟨w.heap.size, 6, none⟩)) (by decide) (by as_aux_lemma => kernel_rfl) (fun _ _ _ h => h) 7 _ (by rfl) (till_ind (by decide) (by decide)) (fun L w' h1 h2 => h2.1 h1) (by as_aux_lemma => kernel_rfl) (by as_aux_lemma => kernel_rfl) (by as_aux_lemma => kernel_rfl) (by rfl) ?y2 ⟨fun _ => HBX _ hc0, fun _ => trivial⟩ (by rfl) ?_
    case y2 =>
      rintro w' ⟨q2, q3, q4, q5, q6, q7, q8, q9⟩
      simp only [List.getElem_toArray, List.getElem_cons_zero, List.getElem_cons_succ]
      go_simp
    simp only [List.getElem_toArray, List.getElem_cons_zero, List.getElem_cons_succ, Act.put, List.setIfInBounds_toArray, List.set_cons_zero, List.set_cons_succ]
    refine wpAnyG.take 3 (v := .agg #[.bool hh, .bool p3, .slice a3 n3 k3, .slice d3 m3 l3]) (by decide) (by as_aux_lemma => kernel_rfl) (fun _ _ _ h => h) 7 _ (by rfl) (till_ind (by decide) (by decide)) (fun L w' h1 h2 => h2.1 h1) (by as_aux_lemma => kernel_rfl) (by as_aux_lemma => kernel_rfl) (by as_aux_lemma => kernel_rfl) (by rfl) ?y3 ⟨fun _ => HBX _ hc0, fun _ => trivial⟩ (by rfl) ?_
    case y3 =>
      rintro w' ⟨q2, q3, q4, q5, q6, q7, q8, q9⟩
      simp only [List.getElem_toArray, List.getElem_cons_zero, List.getElem_cons_succ]
      go_simp
    simp only [List.getElem_toArray, List.getElem_cons_zero, List.getElem_cons_succ, Act.put, List.setIfInBounds_toArray, List.set_cons_zero, List.set_cons_succ]
    refine wpAnyG.two 4 5 (by as_aux_lemma => kernel_rfl) (by decide) (by decide) (by rfl) (by rfl) (fun K hK => ?_) (fun K hK => ?_)
    · simp only [List.getElem_toArray, List.getElem_cons_zero, List.getElem_cons_succ]
      go_simp
      have hx := bel_d0 z0 (.cells #[.bool false, .bool false, .slice none 0 0, .slice none 0 0] 52)
      have A8 := Rw.new 52 z0 #[.bool false, .bool false, .slice none 0 0, .slice none 0 0]
      have hc1 := bel_tr hc0 hx
      have HS1 : Hid ((z0.alloc (.cells #[.bool false, .bool false, .slice none 0 0, .slice none 0 0] 52)).heap.size = z0.heap.size + 1) := by show _ = _; simp
      refine hK _ _ ⟨fun _ => HBX _ hc1, fun _ => trivial⟩ ?_
      clear hK K
      generalize z0.alloc (.cells #[.bool false, .bool false, .slice none 0 0, .slice none 0 0] 52) = z1 at *
      refine wpAnyG.one 5 (by as_aux_lemma => kernel_rfl) (by decide) (by rfl) (fun K hK => ?_)
      simp only [List.getElem_toArray, List.getElem_cons_zero, List.getElem_cons_succ]
      go_simp
      have hx2 := bel_d0 z1 (.cells #[.bool false, .bool false, .slice none 0 0, .slice none 0 0] 52)
      have A9 := Rw.new 52 z1 #[.bool false, .bool false, .slice none 0 0, .slice none 0 0]
      replace A8 := A8.below hx2
      have hc2 := bel_tr hc1 hx2
      refine hK _ _ ⟨fun _ => HBX _ hc2, fun _ => trivial⟩ ?_
      clear hK K
      generalize z1.alloc (.cells #[.bool false, .bool false, .slice none 0 0, .slice none 0 0] 52) = z2 at *
      have hz0 := hc0.size
      refine wpAnyG.one 6 (by as_aux_lemma => kernel_rfl) (by decide) (by rfl) (fun K hK => ?_)
      simp only [List.getElem_toArray, List.getElem_cons_zero, List.getElem_cons_succ]
      refine wp_store_row 52 _ _ rfl (z0.heap.size) #[.bool hl, .bool p2, .slice a2 n2 k2, .slice d2 m2 l2] rfl rfl 52 _ A8 bndI4 rfl (by simp [Value.oneCell']) ?_
      obtain ⟨A8n, O8⟩ := A8.row #[.bool hl, .bool p2, .slice a2 n2 k2, .slice d2 m2 l2]
      have hc3 := hc2.trans (O8.below (show W0.heap.size ≤ z0.heap.size by have := HS1.out; omega))
      have A9n := A9.off O8 (by have := HS1.out; omega)
      refine hK _ _ ⟨fun _ => HBX _ hc3, fun _ => trivial⟩ ?_
      clear hK K
      generalize z2.setRow (z0.heap.size) #[.bool hl, .bool p2, .slice a2 n2 k2, .slice d2 m2 l2] = z3 at *
      refine wpAnyG.one 7 (by as_aux_lemma => kernel_rfl) (by decide) (by rfl) (fun K hK => ?_)
      simp only [List.getElem_toArray, List.getElem_cons_zero, List.getElem_cons_succ]
      refine wp_store_row 52 _ _ rfl (z1.heap.size) #[.bool hh, .bool p3, .slice a3 n3 k3, .slice d3 m3 l3] rfl rfl 52 _ A9n bndI4 rfl (by simp [Value.oneCell']) ?_
      obtain ⟨A9m, O9⟩ := A9n.row #[.bool hh, .bool p3, .slice a3 n3 k3, .slice d3 m3 l3]
      have hc4 := hc3.trans (O9.below (show W0.heap.size ≤ z1.heap.size by have := HS1.out; omega))
      have A8m := A8n.off O9 (by have := HS1.out; omega)
      refine hK _ _ ⟨fun h => absurd h (by decide), fun _ => trivial⟩ ?_
      clear hK K
      refine wpAnyG.done (by as_aux_lemma => kernel_rfl) (NoPanic.normal ?_)
      exact ⟨rfl, _, _, _, _, z0.heap.size, z1.heap.size, rfl, A8m, A9m, by have := HS1.out; omega, by have := HS1.out; omega, by have := HS1.out; omega, hc4⟩
    · simp only [List.getElem_toArray, List.getElem_cons_zero, List.getElem_cons_succ]
      go_simp
      have hx := bel_d0 z0 (.cells #[.bool false, .bool false, .slice none 0 0, .slice none 0 0] 52)
      have A9 := Rw.new 52 z0 #[.bool false, .bool false, .slice none 0 0, .slice none 0 0]
      have hc1 := bel_tr hc0 hx
      have HS1 : Hid ((z0.alloc (.cells #[.bool false, .bool false, .slice none 0 0, .slice none 0 0] 52)).heap.size = z0.heap.size + 1) := by show _ = _; simp
      refine hK _ _ ⟨fun _ => HBX _ hc1, fun _ => trivial⟩ ?_
      clear hK K
      generalize z0.alloc (.cells #[.bool false, .bool false, .slice none 0 0, .slice none 0 0] 52) = z1 at *
      refine wpAnyG.one 4 (by as_aux_lemma => kernel_rfl) (by decide) (by rfl) (fun K hK => ?_)
      simp only [List.getElem_toArray, List.getElem_cons_zero, List.getElem_cons_succ]
      go_simp
      have hx2 := bel_d0 z1 (.cells #[.bool false, .bool false, .slice none 0 0, .slice none 0 0] 52)
      have A8 := Rw.new 52 z1 #[.bool false, .bool false, .slice none 0 0, .slice none 0 0]
      replace A9 := A9.below hx2
      have hc2 := bel_tr hc1 hx2
      refine hK _ _ ⟨fun _ => HBX _ hc2, fun _ => trivial⟩ ?_
      clear hK K
      generalize z1.alloc (.cells #[.bool false, .bool false, .slice none 0 0, .slice none 0 0] 52) = z2 at *
      have hz0 := hc0.size
      refine wpAnyG.one 6 (by as_aux_lemma => kernel_rfl) (by decide) (by rfl) (fun K hK => ?_)
      simp only [List.getElem_toArray, List.getElem_cons_zero, List.getElem_cons_succ]
      refine wp_store_row 52 _ _ rfl (z1.heap.size) #[.bool hl, .bool p2, .slice a2 n2 k2, .slice d2 m2 l2] rfl rfl 52 _ A8 bndI4 rfl (by simp [Value.oneCell']) ?_
      obtain ⟨A8n, O8⟩ := A8.row #[.bool hl, .bool p2, .slice a2 n2 k2, .slice d2 m2 l2]
      have hc3 := hc2.trans (O8.below (show W0.heap.size ≤ z1.heap.size by have := HS1.out; omega))
      have A9n := A9.off O8 (by have := HS1.out; omega)
      refine hK _ _ ⟨fun _ => HBX _ hc3, fun _ => trivial⟩ ?_
      clear hK K
      generalize z2.setRow (z1.heap.size) #[.bool hl, .bool p2, .slice a2 n2 k2, .slice d2 m2 l2] = z3 at *
      refine wpAnyG.one 7 (by as_aux_lemma => kernel_rfl) (by decide) (by rfl) (fun K hK => ?_)
      simp only [List.getElem_toArray, List.getElem_cons_zero, List.getElem_cons_succ]
      refine wp_store_row 52 _ _ rfl (z0.heap.size) #[.bool hh, .bool p3, .slice a3 n3 k3, .slice d3 m3 l3] rfl rfl 52 _ A9n bndI4 rfl (by simp [Value.oneCell']) ?_
      obtain ⟨A9m, O9⟩ := A9n.row #[.bool hh, .bool p3, .slice a3 n3 k3, .slice d3 m3 l3]
      have hc4 := hc3.trans (O9.below (show W0.heap.size ≤ z0.heap.size by have := HS1.out; omega))
      have A8m := A8n.off O9 (by have := HS1.out; omega)
      refine hK _ _ ⟨fun h => absurd h (by decide), fun _ => trivial⟩ ?_
      clear hK K
      refine wpAnyG.done (by as_aux_lemma => kernel_rfl) (NoPanic.normal ?_)
      exact ⟨rfl, _, _, _, _, z1.heap.size, z0.heap.size, rfl, A8m, A9m, by have := HS1.out; omega, by have := HS1.out; omega, by have := HS1.out; omega, hc4⟩
  rintro a' w3 ⟨u1, u2, u3, u4, b8, b9, rfl, A8, A9, hne, h8, h9, hU3⟩
  simp only [Act.put, List.setIfInBounds_toArray, List.set_cons_zero, List.set_cons_succ]
  have fD := ((hD.below (bel_tr hb0 hU3)).rw.cell 0).trans (show _ = some (.bool true) from rfl)
  have hbw := bel_tr hb0 hU3
  have TPw := hTP.below hbw
  go_wp2_with fail
  refine (itoaN pl hpl w3 TPw).mono ?_
  rintro e w5 ⟨sn, rfl, esn, hk5⟩
  have hsn : sn.size ≤ 21 := by rw [esn]; exact itx_size hpl
  have hU5 := bel_tr hU3 hk5
  have hbw5 := bel_tr hb0 hU5
  have A85 := A8.below hk5
  have A95 := A9.below hk5
  have D5 := hD.below hbw5
  have B5 := BU.below hU5
  have T5 := hT.below hbw5
  have GL5 := hlo.below hbw5
  have GH5 := hhi.below hbw5
  have L5 := hL.below hbw5
  have e80 := (A85.cell 0).trans (show _ = some (.bool hl) from rfl)
  have nb8 : ¬ f.has b8 := fun e => by have := (hDl b8 e).2; omega
  have nb9 : ¬ f.has b9 := fun e => by have := (hDl b9 e).2; omega
  have nB0 : ¬ f.has w.heap.size := fun e => by have := (hDl _ e).2; omega
  have hF5 : F ≤ w5.heap.size := by have := hbw5.size; omega
  have hkz : (kd ++ ⟨#[112]⟩).size = kd.size + 1 := by simp [ByteArray.size_append]; rfl
  have hkz2 : (kd ++ ⟨#[109]⟩).size = kd.size + 1 := by simp [ByteArray.size_append]; rfl
  have hks : ¬ 9223372036854775807 < kd.size + (⟨#[112]⟩ : ByteArray).size := by have : (⟨#[112]⟩ : ByteArray).size = 1 := rfl; omega
  have hks2 : ¬ 9223372036854775807 < kd.size + (⟨#[109]⟩ : ByteArray).size := by have : (⟨#[109]⟩ : ByteArray).size = 1 := rfl; omega
  have hks3 : ¬ 9223372036854775807 < (kd ++ ⟨#[112]⟩).size + sn.size := by omega
  have hks4 : ¬ 9223372036854775807 < (kd ++ ⟨#[109]⟩).size + sn.size := by omega
  have hzP : (kd ++ (⟨#[112]⟩ : ByteArray) ++ sn).size ≤ 60 := by rw [ByteArray.size_append]; omega
  have hzM : (kd ++ (⟨#[109]⟩ : ByteArray) ++ sn).size ≤ 60 := by rw [ByteArray.size_append]; omega
  clear esn TPw
  cases hl
  · have e90 := (A95.cell 0).trans (show _ = some (.bool hh) from rfl)
    cases hh
    · go_wp2
      go_end0
      exact ⟨rfl, f, kd ++ (⟨#[112]⟩ : ByteArray) ++ sn, kd ++ (⟨#[109]⟩ : ByteArray) ++ sn, hzP, hzM, rfl, rfl, D5, (KF.refl f.has w).bel hbw5⟩
    · have e91 := (A95.cell 1).trans (show _ = some (.bool p3) from rfl)
      have e92 := (A95.cell 2).trans (show _ = some (.slice a3 n3 k3) from rfl)
      have e93 := (A95.cell 3).trans (show _ = some (.slice d3 m3 l3) from rfl)
      have f91 := B5 1 _ rfl
      go_wp2_with fail
      refine (addVarQ w5 D5 hF5 sf_neg GH5 hSr L5 hLn hv hZ hnt (by omega) hrn (fun j hj => by have := hm j hj; omega) T5 hTF).mono ?_
      rintro e w7 ⟨rfl, f7, e71, e72, D7, K7⟩
      have E71 : Hid (f7.D = f.D ∧ f7.rn = f.rn) := ⟨e71, e72⟩
      clear e71 e72
      have KT := ((KF.refl f.has w).bel hbw5).trans K7
      go_wp2
      go_end0
      exact ⟨rfl, f7, kd ++ (⟨#[112]⟩ : ByteArray) ++ sn, kd ++ (⟨#[109]⟩ : ByteArray) ++ sn, hzP, hzM, E71.out.1, E71.out.2, D7, KT⟩
  · have e81 := (A85.cell 1).trans (show _ = some (.bool p2) from rfl)
    have e82 := (A85.cell 2).trans (show _ = some (.slice a2 n2 k2) from rfl)
    have e83 := (A85.cell 3).trans (show _ = some (.slice d2 m2 l2) from rfl)
    have f81 := B5 1 _ rfl
    go_wp2_with fail
    refine (addVarQ w5 D5 hF5 sf_norm GL5 hSr L5 hLn hv hZ hnt (by omega) hrn (fun j hj => by have := hm j hj; omega) T5 hTF).mono ?_
    rintro e w6 ⟨rfl, f6, e61, e62, D6, K6⟩
    have E61 : Hid (f6.D = f.D ∧ f6.rn = f.rn) := ⟨e61, e62⟩
    clear e61 e62
    have KT := ((KF.refl f.has w).bel hbw5).trans K6
    have A96 := A95.kf K6 nb9
    have B6 := B5.kf K6 nB0
    have G6 := GH5.kf K6 D5.noU
    have L6 := L5.kf K6 D5.noU hLn
    have T6 := T5.bF hTF (K6.below (fun k hk => (hDl k hk).1) hF5)
    have hF6 : F ≤ w6.heap.size := Nat.le_trans hF5 K6.size
    have hLn6 : nt ≠ 0 → ∀ g, ta = some ⟨g, 0, none⟩ → ¬ f6.has g := fun h0 g hg e => by
      rcases K6.sub g e with e | e
      · exact hLn h0 g hg e
      · have := L5.lt h0 hg
        omega
    have e90 := (A96.cell 0).trans (show _ = some (.bool hh) from rfl)
    clear e81 e82 e83 f81 A85 A95 B5 T5 GL5 GH5 L5 D5
    cases hh
    · go_wp2
      go_end0
      exact ⟨rfl, f6, kd ++ (⟨#[112]⟩ : ByteArray) ++ sn, kd ++ (⟨#[109]⟩ : ByteArray) ++ sn, hzP, hzM, E61.out.1, E61.out.2, D6, KT⟩
    · have e91 := (A96.cell 1).trans (show _ = some (.bool p3) from rfl)
      have e92 := (A96.cell 2).trans (show _ = some (.slice a3 n3 k3) from rfl)
      have e93 := (A96.cell 3).trans (show _ = some (.slice d3 m3 l3) from rfl)
      have f91 := B6 1 _ rfl
      go_wp2_with fail
      rw [← E61.out.1]
      refine (addVarQ w6 D6 hF6 sf_neg G6 hSr L6 hLn6 (by rw [E61.out.2]; exact hv) hZ hnt (by omega) (by rw [E61.out.2]; exact hrn) (fun j hj => by have := pushs_m x.R x.vn false t Z j nt; have := hm j (by rw [← E61.out.2]; exact hj); omega) T6 hTF).mono ?_
      rintro e w7 ⟨rfl, f7, e71, e72, D7, K7⟩
      have E71 : Hid (f7.D = f6.D ∧ f7.rn = f6.rn) := ⟨e71, e72⟩
      clear e71 e72
      have KT7 := KT.trans K7
      go_wp2
      go_end0
      exact ⟨rfl, f7, kd ++ (⟨#[112]⟩ : ByteArray) ++ sn, kd ++ (⟨#[109]⟩ : ByteArray) ++ sn, hzP, hzM, E71.out.1.trans E61.out.1, E71.out.2.trans E61.out.2, D7, KT7⟩
set_option maxRecDepth 100000 in
set_option maxHeartbeats 16000000 in
/-- span.addBounds, of a dual with Max false -/
theorem addBndF {F : Nat} {f : Fp} {c0 c1 c2 : Value} {x : DS} {S : Nat} {kd nr : ByteArray} {ta : Option Addr} {nt tc St : Nat} {t : Nat → PT} {Z : Nat → Nat} {hl : Bool} {p2 : Bool} {a2 : Option Addr} {n2 k2 : Nat} {d2 : Option Addr} {m2 l2 : Nat} {lo : Rat} {hh : Bool} {p3 : Bool} {a3 : Option Addr} {n3 k3 : Nat} {d3 : Option Addr} {m3 l3 : Nat} {hi : Rat} {Sr : Nat} (pl : Nat) (w : World) (hD : DX w F f false c0 c1 c2 x S) (hF : F ≤ w.heap.size) (hlo : GR w 0 p2 a2 n2 k2 d2 m2 l2 lo Sr) (hhi : GR w 0 p3 a3 n3 k3 d3 m3 l3 hi Sr) (hSr : 1 ≤ Sr ∧ Sr ≤ 7000000) (hL : LTG w ta nt t St) (hLn : nt ≠ 0 → ∀ g, ta = some ⟨g, 0, none⟩ → ¬ f.has g) (hv : ∀ q, q < nt → 0 ≤ (t q).var ∧ (t q).var < (f.rn : Int)) (hZ : ∀ q, q < nt → SzR (t q).coef (Z q) ∧ 1 ≤ Z q ∧ Z q ≤ 7000000)
    (hnt : nt ≤ 1048576) (hpl : pl ≤ 1000000000) (hkd : kd.size ≤ 10) (hvn : x.vn ≤ 5000000) (hrn : f.rn ≤ 10000000) (hm : ∀ j, j < f.rn → (x.R j).m ≤ 50000000) (hT : TB w) (hTP : TP w) (hTF : 3 < F) :
    Calls Tryz.prog 46 #[.pointer (some ⟨f.D, 0, none⟩), .string kd, .int .i64 (pl : Int), .agg #[.string nr, .slice ta nt tc, .bool hl, .bool p2, .slice a2 n2 k2, .slice d2 m2 l2, .bool hh, .bool p3, .slice a3 n3 k3, .slice d3 m3 l3]] w fun e w' => e = .returned (.tuple #[]) ∧ ∃ (f' : Fp) (nP nM : ByteArray), nP.size ≤ 60 ∧ nM.size ≤ 60 ∧ f'.D = f.D ∧ f'.rn = f.rn ∧ DX w' F f' false c0 c1 c2 ((x.opt hh nP false hi Sr t Z nt).opt hl nM true lo Sr t Z nt) S ∧ KF f.has f'.has w w' := by
  have BU := box_new w #[.string nr, .slice ta nt tc, .bool hl, .bool p2, .slice a2 n2 k2, .slice d2 m2 l2, .bool hh, .bool p3, .slice a3 n3 k3, .slice d3 m3 l3] 59
  have hb0 := bel_d0 w (.cells #[.string nr, .slice ta nt tc, .bool hl, .bool p2, .slice a2 n2 k2, .slice d2 m2 l2, .bool hh, .bool p3, .slice a3 n3 k3, .slice d3 m3 l3] 59)
  have hs0 : (w.alloc (.cells #[.string nr, .slice ta nt tc, .bool hl, .bool p2, .slice a2 n2 k2, .slice d2 m2 l2, .bool hh, .bool p3, .slice a3 n3 k3, .slice d3 m3 l3] 59)).heap.size = w.heap.size + 1 := by simp
  have hDl := hD.lt
  go_enter Tryz.func46, Tryz.ntmps46
  go_wp2_with fail
  generalize w.alloc (.cells #[.string nr, .slice ta nt tc, .bool hl, .bool p2, .slice a2 n2 k2, .slice d2 m2 l2, .bool hh, .bool p3, .slice a3 n3 k3, .slice d3 m3 l3] 59) = W0 at *
  have HBX : ∀ w', Below W0.heap.size W0 w' → (w'.cell? ⟨w.heap.size, 2, none⟩ = some (.bool hl) ∧ w'.cell? ⟨w.heap.size, 3, none⟩ = some (.bool p2) ∧ w'.cell? ⟨w.heap.size, 4, none⟩ = some (.slice a2 n2 k2) ∧ w'.cell? ⟨w.heap.size, 5, none⟩ = some (.slice d2 m2 l2) ∧ w'.cell? ⟨w.heap.size, 6, none⟩ = some (.bool hh) ∧ w'.cell? ⟨w.heap.size, 7, none⟩ = some (.bool p3) ∧ w'.cell? ⟨w.heap.size, 8, none⟩ = some (.slice a3 n3 k3) ∧ w'.cell? ⟨w.heap.size, 9, none⟩ = some (.slice d3 m3 l3)) := fun w' h => ⟨(BU.below h) 2 _ rfl, (BU.below h) 3 _ rfl, (BU.below h) 4 _ rfl, (BU.below h) 5 _ rfl, (BU.below h) 6 _ rfl, (BU.below h) 7 _ rfl, (BU.below h) 8 _ rfl, (BU.below h) 9 _ rfl⟩
  refine wp_cutT (fun a0 a' w' => ∃ (u1 u2 u3 u4 : Value) (b8 b9 : Nat), a' = ((((((a0.put (some 11) u1).put (some 12) u2).put (some 13) u3).put (some 14) u4).put (some 8) (.pointer (some ⟨b8, 0, none⟩))).put (some 9) (.pointer (some ⟨b9, 0, none⟩))) ∧ Rw 52 w' b8 #[.bool hl, .bool p2, .slice a2 n2 k2, .slice d2 m2 l2] ∧ Rw 52 w' b9 #[.bool hh, .bool p3, .slice a3 n3 k3, .slice d3 m3 l3] ∧ b8 ≠ b9 ∧ W0.heap.size ≤ b8 ∧ W0.heap.size ≤ b9 ∧ Below W0.heap.size W0 w') ?_ ?_
  · refine wp_region_noPanic (wp_region_guard (Till 7 7 (fun w' => w'.cell? ⟨w.heap.size, 2, none⟩ = some (.bool hl) ∧ w'.cell? ⟨w.heap.size, 3, none⟩ = some (.bool p2) ∧ w'.cell? ⟨w.heap.size, 4, none⟩ = some (.slice a2 n2 k2) ∧ w'.cell? ⟨w.heap.size, 5, none⟩ = some (.slice d2 m2 l2) ∧ w'.cell? ⟨w.heap.size, 6, none⟩ = some (.bool hh) ∧ w'.cell? ⟨w.heap.size, 7, none⟩ = some (.bool p3) ∧ w'.cell? ⟨w.heap.size, 8, none⟩ = some (.slice a3 n3 k3) ∧ w'.cell? ⟨w.heap.size, 9, none⟩ = some (.slice d3 m3 l3)) (fun _ => True)) (by as_aux_lemma => kernel_rfl) ?_)
    have hc0 : Below W0.heap.size W0 W0.drew := bel_d1 _
    generalize W0.drew = z0 at *
    refine wpAnyG.take 0 (v := .pointer (some ⟨w.heap.size, 2, none⟩)) (by decide) (by as_aux_lemma => kernel_rfl) (fun _ _ _ h => h) 7 _ (by rfl) (till_ind (by decide) (by decide)) (fun L w' h1 h2 => h2.1 h1) (by as_aux_lemma => kernel_rfl) (by as_aux_lemma => kernel_rfl) (by as_aux_lemma => kernel_rfl) (by rfl) ?y0 ⟨fun _ => HBX _ hc0, fun _ => trivial⟩ (by rfl) ?_
    case y0 =>
      rintro w' ⟨q2, q3, q4, q5, q6, q7, q8, q9⟩
      simp only [List.getElem_toArray, List.getElem_cons_zero]
      go_simp
    simp only [List.getElem_toArray, List.getElem_cons_zero, Act.put, List.setIfInBounds_toArray, List.set_cons_zero, List.set_cons_succ]
    refine wpAnyG.take 1 (v := .agg #[.bool hl, .bool p2, .slice a2 n2 k2, .slice d2 m2 l2]) (by decide) (by as_aux_lemma => kernel_rfl) (fun _ _ _ h => h) 7 _ (by rfl) (till_ind (by decide) (by decide)) (fun L w' h1 h2 => h2.1 h1) (by as_aux_lemma => kernel_rfl) (by as_aux_lemma => kernel_rfl) (by as_aux_lemma => kernel_rfl) (by rfl) ?y1 ⟨fun _ => HBX _ hc0, fun _ => trivial⟩ (by rfl) ?_
    case y1 =>
      rintro w' ⟨q2, q3, q4, q5, q6, q7, q8, q9⟩
      simp only [List.getElem_toArray, List.getElem_cons_zero, List.getElem_cons_succ]
      go_simp
    simp only [List.getElem_toArray, List.getElem_cons_zero, List.getElem_cons_succ, Act.put, List.setIfInBounds_toArray, List.set_cons_zero, List.set_cons_succ]
    refine wpAnyG.take 2 (v := .pointer (some ⟨w.heap.size, 6, none⟩)) (by decide) (by as_aux_lemma => kernel_rfl) (fun _ _ _ h => h) 7 _ (by rfl) (till_ind (by decide) (by decide)) (fun L w' h1 h2 => h2.1 h1) (by as_aux_lemma => kernel_rfl) (by as_aux_lemma => kernel_rfl) (by as_aux_lemma => kernel_rfl) (by rfl) ?y2 ⟨fun _ => HBX _ hc0, fun _ => trivial⟩ (by rfl) ?_
    case y2 =>
      rintro w' ⟨q2, q3, q4, q5, q6, q7, q8, q9⟩
      simp only [List.getElem_toArray, List.getElem_cons_zero, List.getElem_cons_succ]
      go_simp
    simp only [List.getElem_toArray, List.getElem_cons_zero, List.getElem_cons_succ, Act.put, List.setIfInBounds_toArray, List.set_cons_zero, List.set_cons_succ]
    refine wpAnyG.take 3 (v := .agg #[.bool hh, .bool p3, .slice a3 n3 k3, .slice d3 m3 l3]) (by decide) (by as_aux_lemma => kernel_rfl) (fun _ _ _ h => h) 7 _ (by rfl) (till_ind (by decide) (by decide)) (fun L w' h1 h2 => h2.1 h1) (by as_aux_lemma => kernel_rfl) (by as_aux_lemma => kernel_rfl) (by as_aux_lemma => kernel_rfl) (by rfl) ?y3 ⟨fun _ => HBX _ hc0, fun _ => trivial⟩ (by rfl) ?_
    case y3 =>
      rintro w' ⟨q2, q3, q4, q5, q6, q7, q8, q9⟩
      simp only [List.getElem_toArray, List.getElem_cons_zero, List.getElem_cons_succ]
      go_simp
    simp only [List.getElem_toArray, List.getElem_cons_zero, List.getElem_cons_succ, Act.put, List.setIfInBounds_toArray, List.set_cons_zero, List.set_cons_succ]
    refine wpAnyG.two 4 5 (by as_aux_lemma => kernel_rfl) (by decide) (by decide) (by rfl) (by rfl) (fun K hK => ?_) (fun K hK => ?_)
    · simp only [List.getElem_toArray, List.getElem_cons_zero, List.getElem_cons_succ]
      go_simp
      have hx := bel_d0 z0 (.cells #[.bool false, .bool false, .slice none 0 0, .slice none 0 0] 52)
      have A8 := Rw.new 52 z0 #[.bool false, .bool false, .slice none 0 0, .slice none 0 0]
      have hc1 := bel_tr hc0 hx
      have HS1 : Hid ((z0.alloc (.cells #[.bool false, .bool false, .slice none 0 0, .slice none 0 0] 52)).heap.size = z0.heap.size + 1) := by show _ = _; simp
      refine hK _ _ ⟨fun _ => HBX _ hc1, fun _ => trivial⟩ ?_
      clear hK K
      generalize z0.alloc (.cells #[.bool false, .bool false, .slice none 0 0, .slice none 0 0] 52) = z1 at *
      refine wpAnyG.one 5 (by as_aux_lemma => kernel_rfl) (by decide) (by rfl) (fun K hK => ?_)
      simp only [List.getElem_toArray, List.getElem_cons_zero, List.getElem_cons_succ]
      go_simp
      have hx2 := bel_d0 z1 (.cells #[.bool false, .bool false, .slice none 0 0, .slice none 0 0] 52)
      have A9 := Rw.new 52 z1 #[.bool false, .bool false, .slice none 0 0, .slice none 0 0]
      replace A8 := A8.below hx2
      have hc2 := bel_tr hc1 hx2
      refine hK _ _ ⟨fun _ => HBX _ hc2, fun _ => trivial⟩ ?_
      clear hK K
      generalize z1.alloc (.cells #[.bool false, .bool false, .slice none 0 0, .slice none 0 0] 52) = z2 at *
      have hz0 := hc0.size
      refine wpAnyG.one 6 (by as_aux_lemma => kernel_rfl) (by decide) (by rfl) (fun K hK => ?_)
      simp only [List.getElem_toArray, List.getElem_cons_zero, List.getElem_cons_succ]
      refine wp_store_row 52 _ _ rfl (z0.heap.size) #[.bool hl, .bool p2, .slice a2 n2 k2, .slice d2 m2 l2] rfl rfl 52 _ A8 bndI4 rfl (by simp [Value.oneCell']) ?_
      obtain ⟨A8n, O8⟩ := A8.row #[.bool hl, .bool p2, .slice a2 n2 k2, .slice d2 m2 l2]
      have hc3 := hc2.trans (O8.below (show W0.heap.size ≤ z0.heap.size by have := HS1.out; omega))
      have A9n := A9.off O8 (by have := HS1.out; omega)
      refine hK _ _ ⟨fun _ => HBX _ hc3, fun _ => trivial⟩ ?_
      clear hK K
      generalize z2.setRow (z0.heap.size) #[.bool hl, .bool p2, .slice a2 n2 k2, .slice d2 m2 l2] = z3 at *
      refine wpAnyG.one 7 (by as_aux_lemma => kernel_rfl) (by decide) (by rfl) (fun K hK => ?_)
      simp only [List.getElem_toArray, List.getElem_cons_zero, List.getElem_cons_succ]
      refine wp_store_row 52 _ _ rfl (z1.heap.size) #[.bool hh, .bool p3, .slice a3 n3 k3, .slice d3 m3 l3] rfl rfl 52 _ A9n bndI4 rfl (by simp [Value.oneCell']) ?_
      obtain ⟨A9m, O9⟩ := A9n.row #[.bool hh, .bool p3, .slice a3 n3 k3, .slice d3 m3 l3]
      have hc4 := hc3.trans (O9.below (show W0.heap.size ≤ z1.heap.size by have := HS1.out; omega))
      have A8m := A8n.off O9 (by have := HS1.out; omega)
      refine hK _ _ ⟨fun h => absurd h (by decide), fun _ => trivial⟩ ?_
      clear hK K
      refine wpAnyG.done (by as_aux_lemma => kernel_rfl) (NoPanic.normal ?_)
      exact ⟨rfl, _, _, _, _, z0.heap.size, z1.heap.size, rfl, A8m, A9m, by have := HS1.out; omega, by have := HS1.out; omega, by have := HS1.out; omega, hc4⟩
    · simp only [List.getElem_toArray, List.getElem_cons_zero, List.getElem_cons_succ]
      go_simp
      have hx := bel_d0 z0 (.cells #[.bool false, .bool false, .slice none 0 0, .slice none 0 0] 52)
      have A9 := Rw.new 52 z0 #[.bool false, .bool false, .slice none 0 0, .slice none 0 0]
      have hc1 := bel_tr hc0 hx
      have HS1 : Hid ((z0.alloc (.cells #[.bool false, .bool false, .slice none 0 0, .slice none 0 0] 52)).heap.size = z0.heap.size + 1) := by show _ = _; simp
      refine hK _ _ ⟨fun _ => HBX _ hc1, fun _ => trivial⟩ ?_
      clear hK K
      generalize z0.alloc (.cells #[.bool false, .bool false, .slice none 0 0, .slice none 0 0] 52) = z1 at *
      refine wpAnyG.one 4 (by as_aux_lemma => kernel_rfl) (by decide) (by rfl) (fun K hK => ?_)
      simp only [List.getElem_toArray, List.getElem_cons_zero, List.getElem_cons_succ]
      go_simp
      have hx2 := bel_d0 z1 (.cells #[.bool false, .bool false, .slice none 0 0, .slice none 0 0] 52)
      have A8 := Rw.new 52 z1 #[.bool false, .bool false, .slice none 0 0, .slice none 0 0]
      replace A9 := A9.below hx2
      have hc2 := bel_tr hc1 hx2
      refine hK _ _ ⟨fun _ => HBX _ hc2, fun _ => trivial⟩ ?_
      clear hK K
      generalize z1.alloc (.cells #[.bool false, .bool false, .slice none 0 0, .slice none 0 0] 52) = z2 at *
      have hz0 := hc0.size
      refine wpAnyG.one 6 (by as_aux_lemma => kernel_rfl) (by decide) (by rfl) (fun K hK => ?_)
      simp only [List.getElem_toArray, List.getElem_cons_zero, List.getElem_cons_succ]
      refine wp_store_row 52 _ _ rfl (z1.heap.size) #[.bool hl, .bool p2, .slice a2 n2 k2, .slice d2 m2 l2] rfl rfl 52 _ A8 bndI4 rfl (by simp [Value.oneCell']) ?_
      obtain ⟨A8n, O8⟩ := A8.row #[.bool hl, .bool p2, .slice a2 n2 k2, .slice d2 m2 l2]
      have hc3 := hc2.trans (O8.below (show W0.heap.size ≤ z1.heap.size by have := HS1.out; omega))
      have A9n := A9.off O8 (by have := HS1.out; omega)
      refine hK _ _ ⟨fun _ => HBX _ hc3, fun _ => trivial⟩ ?_
      clear hK K
      generalize z2.setRow (z1.heap.size) #[.bool hl, .bool p2, .slice a2 n2 k2, .slice d2 m2 l2] = z3 at *
      refine wpAnyG.one 7 (by as_aux_lemma => kernel_rfl) (by decide) (by rfl) (fun K hK => ?_)
      simp only [List.getElem_toArray, List.getElem_cons_zero, List.getElem_cons_succ]
      refine wp_store_row 52 _ _ rfl (z0.heap.size) #[.bool hh, .bool p3, .slice a3 n3 k3, .slice d3 m3 l3] rfl rfl 52 _ A9n bndI4 rfl (by simp [Value.oneCell']) ?_
      obtain ⟨A9m, O9⟩ := A9n.row #[.bool hh, .bool p3, .slice a3 n3 k3, .slice d3 m3 l3]
      have hc4 := hc3.trans (O9.below (show W0.heap.size ≤ z0.heap.size by have := HS1.out; omega))
      have A8m := A8n.off O9 (by have := HS1.out; omega)
      refine hK _ _ ⟨fun h => absurd h (by decide), fun _ => trivial⟩ ?_
      clear hK K
      refine wpAnyG.done (by as_aux_lemma => kernel_rfl) (NoPanic.normal ?_)
      exact ⟨rfl, _, _, _, _, z1.heap.size, z0.heap.size, rfl, A8m, A9m, by have := HS1.out; omega, by have := HS1.out; omega, by have := HS1.out; omega, hc4⟩
  rintro a' w3 ⟨u1, u2, u3, u4, b8, b9, rfl, A8, A9, hne, h8, h9, hU3⟩
  simp only [Act.put, List.setIfInBounds_toArray, List.set_cons_zero, List.set_cons_succ]
  have fD := ((hD.below (bel_tr hb0 hU3)).rw.cell 0).trans (show _ = some (.bool false) from rfl)
  go_wp2_with fail
  refine wp_region_noPanic (wp_region_guard (Till 5 5 (fun w' => w'.cell? ⟨w.heap.size, 2, none⟩ = some (.bool hl) ∧ w'.cell? ⟨w.heap.size, 3, none⟩ = some (.bool p2) ∧ w'.cell? ⟨w.heap.size, 4, none⟩ = some (.slice a2 n2 k2) ∧ w'.cell? ⟨w.heap.size, 5, none⟩ = some (.slice d2 m2 l2) ∧ w'.cell? ⟨w.heap.size, 6, none⟩ = some (.bool hh) ∧ w'.cell? ⟨w.heap.size, 7, none⟩ = some (.bool p3) ∧ w'.cell? ⟨w.heap.size, 8, none⟩ = some (.slice a3 n3 k3) ∧ w'.cell? ⟨w.heap.size, 9, none⟩ = some (.slice d3 m3 l3)) (fun _ => True)) (by as_aux_lemma => kernel_rfl) ?_)
  have hc0 : Below W0.heap.size W0 w3.drew := bel_tr hU3 (bel_d1 _)
  replace A8 := A8.below (bel_d1 w3)
  replace A9 := A9.below (bel_d1 w3)
  generalize w3.drew = z0 at *
  refine wpAnyG.take 0 (v := .pointer (some ⟨w.heap.size, 6, none⟩)) (by decide) (by as_aux_lemma => kernel_rfl) (fun _ _ _ h => h) 5 _ (by rfl) (till_ind (by decide) (by decide)) (fun L w' h1 h2 => h2.1 h1) (by as_aux_lemma => kernel_rfl) (by as_aux_lemma => kernel_rfl) (by as_aux_lemma => kernel_rfl) (by rfl) ?y0 ⟨fun _ => HBX _ hc0, fun _ => trivial⟩ (by rfl) ?_
  case y0 =>
    rintro w' ⟨q2, q3, q4, q5, q6, q7, q8, q9⟩
    simp only [List.getElem_toArray, List.getElem_cons_zero]
    go_simp
  simp only [List.getElem_toArray, List.getElem_cons_zero, Act.put, List.setIfInBounds_toArray, List.set_cons_zero, List.set_cons_succ]
  refine wpAnyG.take 1 (v := .agg #[.bool hh, .bool p3, .slice a3 n3 k3, .slice d3 m3 l3]) (by decide) (by as_aux_lemma => kernel_rfl) (fun _ _ _ h => h) 5 _ (by rfl) (till_ind (by decide) (by decide)) (fun L w' h1 h2 => h2.1 h1) (by as_aux_lemma => kernel_rfl) (by as_aux_lemma => kernel_rfl) (by as_aux_lemma => kernel_rfl) (by rfl) ?y1 ⟨fun _ => HBX _ hc0, fun _ => trivial⟩ (by rfl) ?_
  case y1 =>
    rintro w' ⟨q2, q3, q4, q5, q6, q7, q8, q9⟩
    simp only [List.getElem_toArray, List.getElem_cons_zero, List.getElem_cons_succ]
    go_simp
  simp only [List.getElem_toArray, List.getElem_cons_zero, List.getElem_cons_succ, Act.put, List.setIfInBounds_toArray, List.set_cons_zero, List.set_cons_succ]
  refine wpAnyG.take 2 (v := .pointer (some ⟨w.heap.size, 2, none⟩)) (by decide) (by as_aux_lemma => kernel_rfl) (fun _ _ _ h => h) 5 _ (by rfl) (till_ind (by decide) (by decide)) (fun L w' h1 h2 => h2.1 h1) (by as_aux_lemma => kernel_rfl) (by as_aux_lemma => kernel_rfl) (by as_aux_lemma => kernel_rfl) (by rfl) ?y2 ⟨fun _ => HBX _ hc0, fun _ => trivial⟩ (by rfl) ?_
  case y2 =>
    rintro w' ⟨q2, q3, q4, q5, q6, q7, q8, q9⟩
    simp only [List.getElem_toArray, List.getElem_cons_zero, List.getElem_cons_succ]
    go_simp
  simp only [List.getElem_toArray, List.getElem_cons_zero, List.getElem_cons_succ, Act.put, List.setIfInBounds_toArray, List.set_cons_zero, List.set_cons_succ]
  refine wpAnyG.take 3 (v := .agg #[.bool hl, .bool p2, .slice a2 n2 k2, .slice d2 m2 l2]) (by decide) (by as_aux_lemma => kernel_rfl) (fun _ _ _ h => h) 5 _ (by rfl) (till_ind (by decide) (by decide)) (fun L w' h1 h2 => h2.1 h1) (by as_aux_lemma => kernel_rfl) (by as_aux_lemma => kernel_rfl) (by as_aux_lemma => kernel_rfl) (by rfl) ?y3 ⟨fun _ => HBX _ hc0, fun _ => trivial⟩ (by rfl) ?_
  case y3 =>
    rintro w' ⟨q2, q3, q4, q5, q6, q7, q8, q9⟩
    simp only [List.getElem_toArray, List.getElem_cons_zero, List.getElem_cons_succ]
    go_simp
  simp only [List.getElem_toArray, List.getElem_cons_zero, List.getElem_cons_succ, Act.put, List.setIfInBounds_toArray, List.set_cons_zero, List.set_cons_succ]
  refine wpAnyG.one 4 (by as_aux_lemma => kernel_rfl) (by decide) (by rfl) (fun K hK => ?_)
  simp only [List.getElem_toArray, List.getElem_cons_zero, List.getElem_cons_succ]
  refine wp_store_row 52 _ _ rfl b8 #[.bool hh, .bool p3, .slice a3 n3 k3, .slice d3 m3 l3] rfl rfl 52 _ A8 bndI4 rfl (by simp [Value.oneCell']) ?_
  obtain ⟨A8n, O8⟩ := A8.row #[.bool hh, .bool p3, .slice a3 n3 k3, .slice d3 m3 l3]
  have hc3 := hc0.trans (O8.below h8)
  have A9n := A9.off O8 (fun e => hne e.symm)
  refine hK _ _ ⟨fun _ => HBX _ hc3, fun _ => trivial⟩ ?_
  clear hK K A8 A9
  generalize z0.setRow b8 #[.bool hh, .bool p3, .slice a3 n3 k3, .slice d3 m3 l3] = z3 at *
  refine wpAnyG.one 5 (by as_aux_lemma => kernel_rfl) (by decide) (by rfl) (fun K hK => ?_)
  simp only [List.getElem_toArray, List.getElem_cons_zero, List.getElem_cons_succ]
  refine wp_store_row 52 _ _ rfl b9 #[.bool hl, .bool p2, .slice a2 n2 k2, .slice d2 m2 l2] rfl rfl 52 _ A9n bndI4 rfl (by simp [Value.oneCell']) ?_
  obtain ⟨A9m, O9⟩ := A9n.row #[.bool hl, .bool p2, .slice a2 n2 k2, .slice d2 m2 l2]
  have hc4 := hc3.trans (O9.below h9)
  have A8m := A8n.off O9 hne
  refine hK _ _ ⟨fun h => absurd h (by decide), fun _ => trivial⟩ ?_
  clear hK K A8n A9n O8 O9 hc3 hc0 hU3
  generalize z3.setRow b9 #[.bool hl, .bool p2, .slice a2 n2 k2, .slice d2 m2 l2] = w4 at *
  refine wpAnyG.done (by as_aux_lemma => kernel_rfl) (NoPanic.normal ?_)
  have hbw := bel_tr hb0 hc4
  have TPw := hTP.below hbw
  go_wp2_with fail
  refine (itoaN pl hpl w4 TPw).mono ?_
  rintro e w5 ⟨sn, rfl, esn, hk5⟩
  have hsn : sn.size ≤ 21 := by rw [esn]; exact itx_size hpl
  have hU5 := bel_tr hc4 hk5
  have hbw5 := bel_tr hb0 hU5
  have A85 := A8m.below hk5
  have A95 := A9m.below hk5
  have D5 := hD.below hbw5
  have B5 := BU.below hU5
  have T5 := hT.below hbw5
  have GL5 := hlo.below hbw5
  have GH5 := hhi.below hbw5
  have L5 := hL.below hbw5
  have e80 := (A85.cell 0).trans (show _ = some (.bool hh) from rfl)
  have nb8 : ¬ f.has b8 := fun e => by have := (hDl b8 e).2; omega
  have nb9 : ¬ f.has b9 := fun e => by have := (hDl b9 e).2; omega
  have nB0 : ¬ f.has w.heap.size := fun e => by have := (hDl _ e).2; omega
  have hF5 : F ≤ w5.heap.size := by have := hbw5.size; omega
  have hkz : (kd ++ ⟨#[112]⟩).size = kd.size + 1 := by simp [ByteArray.size_append]; rfl
  have hkz2 : (kd ++ ⟨#[109]⟩).size = kd.size + 1 := by simp [ByteArray.size_append]; rfl
  have hks : ¬ 9223372036854775807 < kd.size + (⟨#[112]⟩ : ByteArray).size := by have : (⟨#[112]⟩ : ByteArray).size = 1 := rfl; omega
  have hks2 : ¬ 9223372036854775807 < kd.size + (⟨#[109]⟩ : ByteArray).size := by have : (⟨#[109]⟩ : ByteArray).size = 1 := rfl; omega
  have hks3 : ¬ 9223372036854775807 < (kd ++ ⟨#[112]⟩).size + sn.size := by omega
  have hks4 : ¬ 9223372036854775807 < (kd ++ ⟨#[109]⟩).size + sn.size := by omega
  have hzP : (kd ++ (⟨#[112]⟩ : ByteArray) ++ sn).size ≤ 60 := by rw [ByteArray.size_append]; omega
  have hzM : (kd ++ (⟨#[109]⟩ : ByteArray) ++ sn).size ≤ 60 := by rw [ByteArray.size_append]; omega
  clear esn TPw
  cases hh
  · have e90 := (A95.cell 0).trans (show _ = some (.bool hl) from rfl)
    cases hl
    · go_wp2
      go_end0
      exact ⟨rfl, f, kd ++ (⟨#[112]⟩ : ByteArray) ++ sn, kd ++ (⟨#[109]⟩ : ByteArray) ++ sn, hzP, hzM, rfl, rfl, D5, (KF.refl f.has w).bel hbw5⟩
    · have e91 := (A95.cell 1).trans (show _ = some (.bool p2) from rfl)
      have e92 := (A95.cell 2).trans (show _ = some (.slice a2 n2 k2) from rfl)
      have e93 := (A95.cell 3).trans (show _ = some (.slice d2 m2 l2) from rfl)
      have f91 := B5 1 _ rfl
      go_wp2_with fail
      refine (addVarQ w5 D5 hF5 sf_neg GL5 hSr L5 hLn hv hZ hnt (by omega) hrn (fun j hj => by have := hm j hj; omega) T5 hTF).mono ?_
      rintro e w7 ⟨rfl, f7, e71, e72, D7, K7⟩
      have E71 : Hid (f7.D = f.D ∧ f7.rn = f.rn) := ⟨e71, e72⟩
      clear e71 e72
      have KT := ((KF.refl f.has w).bel hbw5).trans K7
      go_wp2
      go_end0
      exact ⟨rfl, f7, kd ++ (⟨#[112]⟩ : ByteArray) ++ sn, kd ++ (⟨#[109]⟩ : ByteArray) ++ sn, hzP, hzM, E71.out.1, E71.out.2, D7, KT⟩
  · have e81 := (A85.cell 1).trans (show _ = some (.bool p3) from rfl)
    have e82 := (A85.cell 2).trans (show _ = some (.slice a3 n3 k3) from rfl)
    have e83 := (A85.cell 3).trans (show _ = some (.slice d3 m3 l3) from rfl)
    have f81 := B5 1 _ rfl
    go_wp2_with fail
    refine (addVarQ w5 D5 hF5 sf_norm GH5 hSr L5 hLn hv hZ hnt (by omega) hrn (fun j hj => by have := hm j hj; omega) T5 hTF).mono ?_
    rintro e w6 ⟨rfl, f6, e61, e62, D6, K6⟩
    have E61 : Hid (f6.D = f.D ∧ f6.rn = f.rn) := ⟨e61, e62⟩
    clear e61 e62
    have KT := ((KF.refl f.has w).bel hbw5).trans K6
    have A96 := A95.kf K6 nb9
    have B6 := B5.kf K6 nB0
    have G6 := GL5.kf K6 D5.noU
    have L6 := L5.kf K6 D5.noU hLn
    have T6 := T5.bF hTF (K6.below (fun k hk => (hDl k hk).1) hF5)
    have hF6 : F ≤ w6.heap.size := Nat.le_trans hF5 K6.size
    have hLn6 : nt ≠ 0 → ∀ g, ta = some ⟨g, 0, none⟩ → ¬ f6.has g := fun h0 g hg e => by
      rcases K6.sub g e with e | e
      · exact hLn h0 g hg e
      · have := L5.lt h0 hg
        omega
    have e90 := (A96.cell 0).trans (show _ = some (.bool hl) from rfl)
    clear e81 e82 e83 f81 A85 A95 B5 T5 GL5 GH5 L5 D5
    cases hl
    · go_wp2
      go_end0
      exact ⟨rfl, f6, kd ++ (⟨#[112]⟩ : ByteArray) ++ sn, kd ++ (⟨#[109]⟩ : ByteArray) ++ sn, hzP, hzM, E61.out.1, E61.out.2, D6, KT⟩
    · have e91 := (A96.cell 1).trans (show _ = some (.bool p2) from rfl)
      have e92 := (A96.cell 2).trans (show _ = some (.slice a2 n2 k2) from rfl)
      have e93 := (A96.cell 3).trans (show _ = some (.slice d2 m2 l2) from rfl)
      have f91 := B6 1 _ rfl
      go_wp2_with fail
      rw [← E61.out.1]
      refine (addVarQ w6 D6 hF6 sf_neg G6 hSr L6 hLn6 (by rw [E61.out.2]; exact hv) hZ hnt (by omega) (by rw [E61.out.2]; exact hrn) (fun j hj => by have := pushs_m x.R x.vn false t Z j nt; have := hm j (by rw [← E61.out.2]; exact hj); omega) T6 hTF).mono ?_
      rintro e w7 ⟨rfl, f7, e71, e72, D7, K7⟩
      have E71 : Hid (f7.D = f6.D ∧ f7.rn = f6.rn) := ⟨e71, e72⟩
      clear e71 e72
      have KT7 := KT.trans K7
      go_wp2
      go_end0
      exact ⟨rfl, f7, kd ++ (⟨#[112]⟩ : ByteArray) ++ sn, kd ++ (⟨#[109]⟩ : ByteArray) ++ sn, hzP, hzM, E71.out.1.trans E61.out.1, E71.out.2.trans E61.out.2, D7, KT7⟩
/-- Both bounds of a row, in the dual's sense. -/
def DS.bnd (x : DS) (mx : Bool) (nP nM : ByteArray) (hl : Bool) (lo : Rat) (hh : Bool) (hi : Rat) (Sr : Nat) (t : Nat → PT) (Z : Nat → Nat) (nt : Nat) : DS := if mx then (x.opt hl nP false lo Sr t Z nt).opt hh nM true hi Sr t Z nt else (x.opt hh nP false hi Sr t Z nt).opt hl nM true lo Sr t Z nt
theorem addBndQ {F : Nat} {f : Fp} {mx : Bool} {c0 c1 c2 : Value} {x : DS} {S : Nat} {kd nr : ByteArray} {ta : Option Addr} {nt tc St : Nat} {t : Nat → PT} {Z : Nat → Nat} {hl : Bool} {p2 : Bool} {a2 : Option Addr} {n2 k2 : Nat} {d2 : Option Addr} {m2 l2 : Nat} {lo : Rat} {hh : Bool} {p3 : Bool} {a3 : Option Addr} {n3 k3 : Nat} {d3 : Option Addr} {m3 l3 : Nat} {hi : Rat} {Sr : Nat} (pl : Nat) (w : World) (hD : DX w F f mx c0 c1 c2 x S) (hF : F ≤ w.heap.size) (hlo : GR w 0 p2 a2 n2 k2 d2 m2 l2 lo Sr) (hhi : GR w 0 p3 a3 n3 k3 d3 m3 l3 hi Sr) (hSr : 1 ≤ Sr ∧ Sr ≤ 7000000) (hL : LTG w ta nt t St) (hLn : nt ≠ 0 → ∀ g, ta = some ⟨g, 0, none⟩ → ¬ f.has g) (hv : ∀ q, q < nt → 0 ≤ (t q).var ∧ (t q).var < (f.rn : Int)) (hZ : ∀ q, q < nt → SzR (t q).coef (Z q) ∧ 1 ≤ Z q ∧ Z q ≤ 7000000)
    (hnt : nt ≤ 1048576) (hpl : pl ≤ 1000000000) (hkd : kd.size ≤ 10) (hvn : x.vn ≤ 5000000) (hrn : f.rn ≤ 10000000) (hm : ∀ j, j < f.rn → (x.R j).m ≤ 50000000) (hT : TB w) (hTP : TP w) (hTF : 3 < F) :
    Calls Tryz.prog 46 #[.pointer (some ⟨f.D, 0, none⟩), .string kd, .int .i64 (pl : Int), .agg #[.string nr, .slice ta nt tc, .bool hl, .bool p2, .slice a2 n2 k2, .slice d2 m2 l2, .bool hh, .bool p3, .slice a3 n3 k3, .slice d3 m3 l3]] w fun e w' => e = .returned (.tuple #[]) ∧ ∃ (f' : Fp) (nP nM : ByteArray), nP.size ≤ 60 ∧ nM.size ≤ 60 ∧ f'.D = f.D ∧ f'.rn = f.rn ∧ DX w' F f' mx c0 c1 c2 (x.bnd mx nP nM hl lo hh hi Sr t Z nt) S ∧ KF f.has f'.has w w' := by
  cases mx
  · exact addBndF pl w hD hF hlo hhi hSr hL hLn hv hZ hnt hpl hkd hvn hrn hm hT hTP hTF
  · exact addBndT pl w hD hF hlo hhi hSr hL hLn hv hZ hnt hpl hkd hvn hrn hm hT hTP hTF
end Go.Proofs.YtkgnbcbcgnlodaaGreatDoor

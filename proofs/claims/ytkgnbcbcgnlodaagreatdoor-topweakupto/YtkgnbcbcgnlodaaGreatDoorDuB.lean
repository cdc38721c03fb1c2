import Derived.Test.YtkgnbcbcgnlodaaGreatDoorDuA
import Derived.Test.YtkgnbcbcgnlodaaGreatDoorR3M
namespace Go.Proofs.YtkgnbcbcgnlodaaGreatDoor
open Go.RowKit

set_option maxRecDepth 100000 in
set_option maxHeartbeats 16000000 in
/-- span.addVar -/
theorem addVarQ {F : Nat} {f : Fp} {mx : Bool} {c0 c1 c2 : Value} {vn : Nat} {V : Nat → DV} {R : Nat → DR} {S : Nat} {nm : ByteArray} {p : Bool} {a : Option Addr} {na ca : Nat} {d : Option Addr} {nd cd : Nat} {r : Rat} {Sr : Nat} {ta : Option Addr} {nt tc St : Nat} {t : Nat → PT} {Z : Nat → Nat} {fN : FuncId} {s : Bool} (w : World)
    (hD : DU w F f mx c0 c1 c2 vn V R S) (hF : F ≤ w.heap.size) (hf : SF fN s) (hr : GR w 0 p a na ca d nd cd r Sr) (hSr : 1 ≤ Sr ∧ Sr ≤ 7000000) (hL : LTG w ta nt t St) (hLn : nt ≠ 0 → ∀ g, ta = some ⟨g, 0, none⟩ → ¬ f.has g) (hv : ∀ q, q < nt → 0 ≤ (t q).var ∧ (t q).var < (f.rn : Int)) (hZ : ∀ q, q < nt → SzR (t q).coef (Z q) ∧ 1 ≤ Z q ∧ Z q ≤ 7000000)
    (hnt : nt ≤ 1048576) (hvn : vn ≤ 10000000) (hrn : f.rn ≤ 10000000) (hm : ∀ j, j < f.rn → (R j).m ≤ 100000000) (hT : TB w) (hTF : 3 < F) :
    Calls Tryz.prog 84 #[.pointer (some ⟨f.D, 0, none⟩), .string nm, .agg #[.bool p, .slice a na ca, .slice d nd cd], .slice ta nt tc, .func (.func fN) #[] #[]] w fun e w' => e = .returned (.tuple #[]) ∧ ∃ f' : Fp, f'.D = f.D ∧ f'.rn = f.rn ∧ DU w' F f' mx c0 c1 c2 (vn + 1) (fun i => if i < vn then V i else ⟨nm, dsg s r, Sr⟩) (pushs R vn s t Z nt) S ∧ KF f.has f'.has w w' := by
  obtain ⟨D, vv, rv, rn, tv⟩ := f
  obtain ⟨E, SLU, VE⟩ := id hD.v
  obtain ⟨va, vc, rfl, hvc⟩ := SLU.form
  obtain ⟨Er0, SLR, RE0⟩ := id hD.r
  obtain ⟨ra, rc, erv, hrc⟩ := SLR.form
  have erv : rv = .slice ra rn rc := erv
  subst erv
  have HVV : Hid (∀ q, q < nt → 0 ≤ (t q).var ∧ (t q).var < (rn : Int)) := hv
  have HZZ : Hid (∀ q, q < nt → SzR (t q).coef (Z q) ∧ 1 ≤ Z q ∧ Z q ≤ 7000000) := hZ
  have HMM : Hid (∀ j, j < rn → (R j).m ≤ 100000000) := hm
  have hrn' : rn ≤ 10000000 := hrn
  clear hv hZ hm SLR RE0 Er0 hrn
  have BU := box_new w #[.bool p, .slice a na ca, .slice d nd cd] 27
  have hb0 := bel_d0 w (.cells #[.bool p, .slice a na ca, .slice d nd cd] 27)
  have hs0 : (w.alloc (.cells #[.bool p, .slice a na ca, .slice d nd cd] 27)).heap.size = w.heap.size + 1 := by simp
  have DU0 := hD.below hb0
  have hr0 := hr.below hb0
  have hT0 := hT.below hb0
  have hbF : (.slice va vn vc : Value).ownBlock ≠ some w.heap.size := fun e => by have := (SLU.lt _ e).2; omega
  replace SLU := SLU.below hb0
  have fR := (DU0.rw.cell 5).trans (show _ = some (.slice va vn vc) from rfl)
  have fR' : (w.alloc (.cells #[.bool p, .slice a na ca, .slice d nd cd] 27)).cell? ⟨D, 5, none⟩ = some (.slice va vn vc) := fR
  clear fR
  go_enter Tryz.func84, Tryz.ntmps84
  go_wp2_with fail
  generalize w.alloc (.cells #[.bool p, .slice a na ca, .slice d nd cd] 27) = W0 at *
  have HBX : ∀ w', Below W0.heap.size W0 w' → (w'.cell? ⟨D, 5, none⟩ = some (.slice va vn vc) ∧ w'.cell? ⟨w.heap.size, 0, none⟩ = some (.bool p) ∧ w'.cell? ⟨w.heap.size, 1, none⟩ = some (.slice a na ca) ∧ w'.cell? ⟨w.heap.size, 2, none⟩ = some (.slice d nd cd)) := fun w' h => ⟨kept_c h fR', kept_c h (BU 0 _ rfl), kept_c h (BU 1 _ rfl), kept_c h (BU 2 _ rfl)⟩
  refine wp_region_noPanic (wp_region_guard (Till 13 13 (fun w' => w'.cell? ⟨D, 5, none⟩ = some (.slice va vn vc) ∧ w'.cell? ⟨w.heap.size, 0, none⟩ = some (.bool p) ∧ w'.cell? ⟨w.heap.size, 1, none⟩ = some (.slice a na ca) ∧ w'.cell? ⟨w.heap.size, 2, none⟩ = some (.slice d nd cd)) (fun _ => True)) (by as_aux_lemma => kernel_rfl) ?_)
  have hc0 : Below W0.heap.size W0 W0.drew := bel_d1 _
  generalize W0.drew = z0 at *
  refine wpAnyG.take 0 (v := .pointer (some ⟨D, 0, none⟩)) (by decide) (by as_aux_lemma => kernel_rfl) (fun _ _ _ h => h) 13 _ (by rfl) (till_ind (by decide) (by decide)) (fun L w' h1 h2 => h2.1 h1) (by as_aux_lemma => kernel_rfl) (by as_aux_lemma => kernel_rfl) (by as_aux_lemma => kernel_rfl) (by rfl) ?y0 ⟨fun _ => HBX _ hc0, fun _ => trivial⟩ (by rfl) ?_
  case y0 =>
    rintro w' ⟨q0, q1, q2, q3⟩
    simp only [List.getElem_toArray, List.getElem_cons_zero]
    go_simp
  simp only [List.getElem_toArray, List.getElem_cons_zero, Act.put, List.setIfInBounds_toArray, List.set_cons_zero, List.set_cons_succ]
  refine wpAnyG.take 1 (v := .pointer (some ⟨D, 0, none⟩)) (by decide) (by as_aux_lemma => kernel_rfl) (fun _ _ _ h => h) 13 _ (by rfl) (till_ind (by decide) (by decide)) (fun L w' h1 h2 => h2.1 h1) (by as_aux_lemma => kernel_rfl) (by as_aux_lemma => kernel_rfl) (by as_aux_lemma => kernel_rfl) (by rfl) ?y1 ⟨fun _ => HBX _ hc0, fun _ => trivial⟩ (by rfl) ?_
  case y1 =>
    rintro w' ⟨q0, q1, q2, q3⟩
    simp only [List.getElem_toArray, List.getElem_cons_zero, List.getElem_cons_succ]
    go_simp
  simp only [List.getElem_toArray, List.getElem_cons_zero, List.getElem_cons_succ, Act.put, List.setIfInBounds_toArray, List.set_cons_zero, List.set_cons_succ]
  refine wpAnyG.take 2 (v := .pointer (some ⟨D, 0, none⟩)) (by decide) (by as_aux_lemma => kernel_rfl) (fun _ _ _ h => h) 13 _ (by rfl) (till_ind (by decide) (by decide)) (fun L w' h1 h2 => h2.1 h1) (by as_aux_lemma => kernel_rfl) (by as_aux_lemma => kernel_rfl) (by as_aux_lemma => kernel_rfl) (by rfl) ?y2 ⟨fun _ => HBX _ hc0, fun _ => trivial⟩ (by rfl) ?_
  case y2 =>
    rintro w' ⟨q0, q1, q2, q3⟩
    simp only [List.getElem_toArray, List.getElem_cons_zero, List.getElem_cons_succ]
    go_simp
  simp only [List.getElem_toArray, List.getElem_cons_zero, List.getElem_cons_succ, Act.put, List.setIfInBounds_toArray, List.set_cons_zero, List.set_cons_succ]
  refine wpAnyG.take 3 (v := .pointer (some ⟨D, 5, none⟩)) (by decide) (by as_aux_lemma => kernel_rfl) (fun _ _ _ h => h) 13 _ (by rfl) (till_ind (by decide) (by decide)) (fun L w' h1 h2 => h2.1 h1) (by as_aux_lemma => kernel_rfl) (by as_aux_lemma => kernel_rfl) (by as_aux_lemma => kernel_rfl) (by rfl) ?y3 ⟨fun _ => HBX _ hc0, fun _ => trivial⟩ (by rfl) ?_
  case y3 =>
    rintro w' ⟨q0, q1, q2, q3⟩
    simp only [List.getElem_toArray, List.getElem_cons_zero, List.getElem_cons_succ]
    go_simp
  simp only [List.getElem_toArray, List.getElem_cons_zero, List.getElem_cons_succ, Act.put, List.setIfInBounds_toArray, List.set_cons_zero, List.set_cons_succ]
  refine wpAnyG.take 4 (v := .slice va vn vc) (by decide) (by as_aux_lemma => kernel_rfl) (fun _ _ _ h => h) 13 _ (by rfl) (till_ind (by decide) (by decide)) (fun L w' h1 h2 => h2.1 h1) (by as_aux_lemma => kernel_rfl) (by as_aux_lemma => kernel_rfl) (by as_aux_lemma => kernel_rfl) (by rfl) ?y4 ⟨fun _ => HBX _ hc0, fun _ => trivial⟩ (by rfl) ?_
  case y4 =>
    rintro w' ⟨q0, q1, q2, q3⟩
    simp only [List.getElem_toArray, List.getElem_cons_zero, List.getElem_cons_succ]
    go_simp
  simp only [List.getElem_toArray, List.getElem_cons_zero, List.getElem_cons_succ, Act.put, List.setIfInBounds_toArray, List.set_cons_zero, List.set_cons_succ]
  refine wpAnyG.take 5 (v := .string nm) (by decide) (by as_aux_lemma => kernel_rfl) (fun _ _ _ h => h) 13 _ (by rfl) (till_ind (by decide) (by decide)) (fun L w' h1 h2 => h2.1 h1) (by as_aux_lemma => kernel_rfl) (by as_aux_lemma => kernel_rfl) (by as_aux_lemma => kernel_rfl) (by rfl) ?y5 ⟨fun _ => HBX _ hc0, fun _ => trivial⟩ (by rfl) ?_
  case y5 =>
    rintro w' ⟨q0, q1, q2, q3⟩
    simp only [List.getElem_toArray, List.getElem_cons_zero, List.getElem_cons_succ]
    go_simp
  simp only [List.getElem_toArray, List.getElem_cons_zero, List.getElem_cons_succ, Act.put, List.setIfInBounds_toArray, List.set_cons_zero, List.set_cons_succ]
  refine wpAnyG.take 6 (v := .func (.func fN) #[] #[]) (by decide) (by as_aux_lemma => kernel_rfl) (fun _ _ _ h => h) 13 _ (by rfl) (till_ind (by decide) (by decide)) (fun L w' h1 h2 => h2.1 h1) (by as_aux_lemma => kernel_rfl) (by as_aux_lemma => kernel_rfl) (by as_aux_lemma => kernel_rfl) (by rfl) ?y6 ⟨fun _ => HBX _ hc0, fun _ => trivial⟩ (by rfl) ?_
  case y6 =>
    rintro w' ⟨q0, q1, q2, q3⟩
    simp only [List.getElem_toArray, List.getElem_cons_zero, List.getElem_cons_succ]
    go_simp
  simp only [List.getElem_toArray, List.getElem_cons_zero, List.getElem_cons_succ, Act.put, List.setIfInBounds_toArray, List.set_cons_zero, List.set_cons_succ]
  refine wpAnyG.take 7 (v := .agg #[.bool p, .slice a na ca, .slice d nd cd]) (by decide) (by as_aux_lemma => kernel_rfl) (fun _ _ _ h => h) 13 _ (by rfl) (till_ind (by decide) (by decide)) (fun L w' h1 h2 => h2.1 h1) (by as_aux_lemma => kernel_rfl) (by as_aux_lemma => kernel_rfl) (by as_aux_lemma => kernel_rfl) (by rfl) ?y7 ⟨fun _ => HBX _ hc0, fun _ => trivial⟩ (by rfl) ?_
  case y7 =>
    rintro w' ⟨q0, q1, q2, q3⟩
    simp only [List.getElem_toArray, List.getElem_cons_zero, List.getElem_cons_succ]
    go_simp
  simp only [List.getElem_toArray, List.getElem_cons_zero, List.getElem_cons_succ, Act.put, List.setIfInBounds_toArray, List.set_cons_zero, List.set_cons_succ]
  refine wpAnyG.take 9 (v := .agg #[.bool true, .bool false, .slice none 0 0, .slice none 0 0]) (by decide) (by as_aux_lemma => kernel_rfl) (fun _ _ _ h => h) 13 _ (by rfl) (till_ind (by decide) (by decide)) (fun L w' h1 h2 => h2.1 h1) (by as_aux_lemma => kernel_rfl) (by as_aux_lemma => kernel_rfl) (by as_aux_lemma => kernel_rfl) (by rfl) ?y9 ⟨fun _ => HBX _ hc0, fun _ => trivial⟩ (by rfl) ?_
  case y9 =>
    rintro w' ⟨q0, q1, q2, q3⟩
    simp only [List.getElem_toArray, List.getElem_cons_zero, List.getElem_cons_succ]
    go_simp
  simp only [List.getElem_toArray, List.getElem_cons_zero, List.getElem_cons_succ, Act.put, List.setIfInBounds_toArray, List.set_cons_zero, List.set_cons_succ]
  refine wpAnyG.one 8 (by as_aux_lemma => kernel_rfl) (by decide) (by rfl) (fun K hK => ?_)
  simp only [List.getElem_toArray, List.getElem_cons_zero, List.getElem_cons_succ]
  refine wp_sense _ _ _ rfl hf rfl rfl (hr0.below hc0).tr hSr.2 hSr.1 (hT0.below hc0) ?_
  intro f1 c1' n1 k1 d1 m1 l1 z1 G1 hk1
  have hc1 : Below W0.heap.size W0 z1 := bel_tr hc0 hk1
  refine hK _ _ ⟨fun _ => HBX _ hc1, fun _ => trivial⟩ ?_
  clear hK K
  refine wpAnyG.one 10 (by as_aux_lemma => kernel_rfl) (by decide) (by rfl) (fun K hK => ?_)
  simp only [List.getElem_toArray, List.getElem_cons_zero, List.getElem_cons_succ]
  go_simp
  refine hK _ _ ⟨fun _ => HBX _ hc1, fun _ => trivial⟩ ?_
  clear hK K
  refine wpAnyG.one 11 (by as_aux_lemma => kernel_rfl) (by decide) (by rfl) (fun K hK => ?_)
  simp only [List.getElem_toArray, List.getElem_cons_zero, List.getElem_cons_succ]
  go_simp
  have hy : Below W0.heap.size W0 (z1.alloc (.cells #[.string nm, .bool f1, .slice c1' n1 k1, .slice d1 m1 l1, .bool true, .bool false, .slice none 0 0, .slice none 0 0, .bool false, .bool false, .slice none 0 0, .slice none 0 0, .bool false] 54)) := bel_a hc1
  have BX := box_new z1 #[.string nm, .bool f1, .slice c1' n1 k1, .slice d1 m1 l1, .bool true, .bool false, .slice none 0 0, .slice none 0 0, .bool false, .bool false, .slice none 0 0, .slice none 0 0, .bool false] 54
  have G5 := (G1.mono (Nat.zero_le _)).below (bel_d0 z1 (.cells #[.string nm, .bool f1, .slice c1' n1 k1, .slice d1 m1 l1, .bool true, .bool false, .slice none 0 0, .slice none 0 0, .bool false, .bool false, .slice none 0 0, .slice none 0 0, .bool false] 54))
  have hs4 : (z1.alloc (.cells #[.string nm, .bool f1, .slice c1' n1 k1, .slice d1 m1 l1, .bool true, .bool false, .slice none 0 0, .slice none 0 0, .bool false, .bool false, .slice none 0 0, .slice none 0 0, .bool false] 54)).heap.size = z1.heap.size + 1 := by simp
  generalize z1.alloc (.cells #[.string nm, .bool f1, .slice c1' n1 k1, .slice d1 m1 l1, .bool true, .bool false, .slice none 0 0, .slice none 0 0, .bool false, .bool false, .slice none 0 0, .slice none 0 0, .bool false] 54) = z5 at *
  refine hK _ _ ⟨fun _ => HBX _ hy, fun _ => trivial⟩ ?_
  clear hK K
  refine wpAnyG.one 12 (by as_aux_lemma => kernel_rfl) (by decide) (by rfl) (fun K hK => ?_)
  simp only [List.getElem_toArray, List.getElem_cons_zero, List.getElem_cons_succ]
  have DZ := DU0.below hy
  have SLZ := SLU.below hy
  have hsy := hy.size
  refine wp_appendS z5 _ _ 28 54 13 208 rfl Tryz.underlying28 infVar (by decide) (by decide) F (.slice va vn vc) vn E rfl SLZ z1.heap.size 1 rfl [.string nm, .bool f1, .slice c1' n1 k1, .slice d1 m1 l1, .bool true, .bool false, .slice none 0 0, .slice none 0 0, .bool false, .bool false, .slice none 0 0, .slice none 0 0, .bool false] rfl (fun u hu => by simp only [List.mem_cons, List.not_mem_nil, or_false] at hu; rcases hu with rfl | rfl | rfl | rfl | rfl | rfl | rfl | rfl | rfl | rfl | rfl | rfl | rfl <;> rfl) BX (by omega) (by omega) _ rfl ?_
  intro g6 cap6 w6 SN hg hat hgl
  have RZ6 : Rw 31 w6 D #[.bool mx, .string ⟨#[]⟩, c0, c1, c2, .slice va vn vc, .slice ra rn rc] := Rw.kept DZ.rw hg (SLZ.neR DZ.rw (by decide))
  have e0 := (RZ6.cell 5).trans (show _ = some (.slice va vn vc) from rfl)
  have e1 := RZ6.frozen 5
  have eb : w6.heap[w.heap.size]? = z5.heap[w.heap.size]? := hg.block _ (by omega) (fun e => hbF e.symm)
  refine hK _ _ ⟨fun _ => ⟨e0, (World.cell?_of_block (w := z5) eb).trans (kept_c hy (BU 0 _ rfl)), (World.cell?_of_block (w := z5) eb).trans (kept_c hy (BU 1 _ rfl)), (World.cell?_of_block (w := z5) eb).trans (kept_c hy (BU 2 _ rfl))⟩, fun _ => trivial⟩ ?_
  clear hK K
  refine wpAnyG.one 13 (by as_aux_lemma => kernel_rfl) (by decide) (by rfl) (fun K hK => ?_)
  simp only [List.getElem_toArray, List.getElem_cons_zero, List.getElem_cons_succ]
  go_simp
  refine hK _ _ ⟨fun h => absurd h (by decide), fun _ => trivial⟩ ?_
  clear hK K
  refine wpAnyG.one 14 (by as_aux_lemma => kernel_rfl) (by decide) (by rfl) (fun K hK => ?_)
  simp only [List.getElem_toArray, List.getElem_cons_zero, List.getElem_cons_succ]
  go_simp
  refine hK _ _ ⟨fun h => absurd h (by decide), fun _ => trivial⟩ ?_
  clear hK K
  refine wpAnyG.one 15 (by as_aux_lemma => kernel_rfl) (by decide) (by rfl) (fun K hK => ?_)
  simp only [List.getElem_toArray, List.getElem_cons_zero, List.getElem_cons_succ]
  go_simp
  refine hK _ _ ⟨fun h => absurd h (by decide), fun _ => trivial⟩ ?_
  clear hK K
  refine wpAnyG.done (by as_aux_lemma => kernel_rfl) (NoPanic.normal ?_)
  obtain ⟨DN, KN⟩ := DU.addV (v := ⟨nm, dsg s r, Sr⟩) DZ SLZ (fun q hq => ((VE q hq).below hb0).below hy) SN hg hat ⟨_, _, _, _, _, _, _, rfl, G5⟩
  have KW := ((KF.refl (⟨D, .slice va vn vc, .slice ra rn rc, rn, tv⟩ : Fp).has w).bel (bel_tr hb0 hy)).trans KN
  clear DZ SLZ SN hg hat hgl RZ6 e0 e1 eb BX G5 hy hc0 hc1 hk1 G1 HBX BU fR' SLU VE hbF hr0 hT0 DU0 KN hsy hs4
  have DN2 : DU (w6.setCell ⟨D, 5, none⟩ (.slice (some ⟨g6, 0, none⟩) (vn + 1) cap6)) F (⟨D, .slice (some ⟨g6, 0, none⟩) (vn + 1) cap6, .slice ra rn rc, rn, tv⟩ : Fp) mx c0 c1 c2 (vn + 1) (fun i => if i < vn then V i else ⟨nm, dsg s r, Sr⟩) (pushs R vn s t Z 0) S := DN
  have KW2 : KF (⟨D, .slice va vn vc, .slice ra rn rc, rn, tv⟩ : Fp).has (⟨D, .slice (some ⟨g6, 0, none⟩) (vn + 1) cap6, .slice ra rn rc, rn, tv⟩ : Fp).has w (w6.setCell ⟨D, 5, none⟩ (.slice (some ⟨g6, 0, none⟩) (vn + 1) cap6)) := KW
  clear DN KW
  generalize w6.setCell ⟨D, 5, none⟩ (.slice (some ⟨g6, 0, none⟩) (vn + 1) cap6) = w7 at *
  have hDn := hD.noU
  have hDl := hD.lt
  go_wp2_with fail
  go_loopw [36] (fun sq wr => ∃ (q : Nat) (tv' : Nat → Value), q ≤ nt ∧ sq = .int .i64 q ∧ DU wr F (⟨D, .slice (some ⟨g6, 0, none⟩) (vn + 1) cap6, .slice ra rn rc, rn, tv'⟩ : Fp) mx c0 c1 c2 (vn + 1) (fun i => if i < vn then V i else ⟨nm, dsg s r, Sr⟩) (pushs R vn s t Z q) S ∧ KF (⟨D, .slice va vn vc, .slice ra rn rc, rn, tv⟩ : Fp).has (⟨D, .slice (some ⟨g6, 0, none⟩) (vn + 1) cap6, .slice ra rn rc, rn, tv'⟩ : Fp).has w wr) (fun x _ => nt - (intOf x).toNat)
  case atStart => exact ⟨0, tv, Nat.zero_le _, rfl, DN2, KW2⟩
  case round =>
    clear DN2 KW2
    obtain ⟨q, tv', hq, rfl, DQ, KU⟩ := hrel
    by_cases hlt : q < nt
    · have hkI : (q : Int) < (nt : Int) := by omega
      have hkI2 : (q : Int) * 4 = ((q * 4 : Nat) : Int) := by omega
      have hbw : Below F w wr := KU.below (fun k hk => (hDl k hk).1) hF
      have hZq := HZZ.out q hlt
      have hvi := HVV.out q hlt
      have hsU := KU.size
      have hFw : F ≤ wr.heap.size := by omega
      have hTw := hT.bF hTF hbw
      obtain ⟨v, ev⟩ : ∃ v : Nat, v = (t q).var.toNat := ⟨_, rfl⟩
      have hvl : v < rn := by omega
      have hvI : (v : Int) < (rn : Int) := by omega
      have hv0 : ¬ (v : Int) < 0 := by omega
      have hkI3 : (v : Int) * 10 = ((v * 10 : Nat) : Int) := by omega
      rcases hL.kf KU hDn hLn with h00 | ⟨tg, hta, hel⟩
      · omega
      obtain ⟨q0, qa, qn, qc, qd, qm, ql, r0, r1, r2, r3, GC⟩ := hel q hlt
      rw [show (t q).var = (v : Nat) by omega] at r0
      have HEV : Hid (v = (t q).var.toNat) := ev
      have hta' : ta = some ⟨tg, 0, none⟩ := hta
      clear hta hel ev hvi
      replace GC := GC.fit hZq.1
      obtain ⟨Er, s1, s2⟩ := id DQ.r
      rcases s1.cell with h00 | ⟨rg, hra, hcr⟩
      · exact absurd (show rn = 0 from h00) (by omega)
      obtain ⟨E7, SLT0, TE⟩ := id (DQ.t v hvl)
      obtain ⟨ua, uc, etv, _⟩ := SLT0.form
      obtain ⟨um, eum⟩ : ∃ um, um = (pushs R vn s t Z q v).m := ⟨_, rfl⟩
      have HUM : Hid (um = (pushs R vn s t Z q v).m) := eum
      have hum : um ≤ 110000000 := by rw [eum]; have := pushs_m R vn s t Z v q; have := HMM.out v hvl; omega
      obtain ⟨x1, x2, x3, x4, x5, x6, x7, ecs, _⟩ := s2 v hvl
      have fT : wr.cell? ⟨rg, v * 10 + 1, none⟩ = some (.slice ua um uc) := by
        have h := hcr v hvl 1 _ (by rw [ecs]; rfl)
        rw [show ((⟨D, .slice (some ⟨g6, 0, none⟩) (vn + 1) cap6, .slice ra rn rc, rn, tv'⟩ : Fp)).tv v = .slice ua (pushs R vn s t Z q v).m uc from etv, ← eum] at h
        exact h
      have HTV : Hid (tv' v = .slice ua um uc) := by show tv' v = _; rw [eum]; exact etv
      have SLT : SL wr F 56 4 (.slice ua um uc) um E7 := by
        have h : SL wr F 56 4 (tv' v) (pushs R vn s t Z q v).m E7 := SLT0
        rw [HTV.out, ← eum] at h
        exact h
      have HRA : Hid (ra = some ⟨rg, 0, none⟩) := hra
      have fRv : wr.cell? ⟨D, 6, none⟩ = some (.slice (some ⟨rg, 0, none⟩) rn rc) := by
        have h := (DQ.rw.cell 6).trans (show _ = some (.slice ra rn rc) from rfl)
        rw [hra] at h
        exact h
      clear s1 s2 hcr eum etv ecs hra SLT0
      have BU := box_new wr #[.int .i64 (v : Nat), .bool q0, .slice qa qn qc, .slice qd qm ql] 56
      have hz := bel_d0 wr (.cells #[.int .i64 (v : Nat), .bool q0, .slice qa qn qc, .slice qd qm ql] 56)
      have hsW : (wr.alloc (.cells #[.int .i64 (v : Nat), .bool q0, .slice qa qn qc, .slice qd qm ql] 56)).heap.size = wr.heap.size + 1 := by simp
      have hbT : (.slice ua um uc : Value).ownBlock ≠ some wr.heap.size := fun e => by have := (SLT.lt _ e).2; omega
      have DU2 := DQ.below hz
      have SLT2 := SLT.below hz
      have GC2 := GC.below hz
      have hT2 := hTw.below hz
      have fT2 := kept_c hz fT
      have fRv2 := kept_c hz fRv
      have hzz := hz
      go_wp2_with fail
      clear r0 r1 r2 r3 hz fT fRv GC SLT DQ
      generalize wr.alloc (.cells #[.int .i64 (v : Nat), .bool q0, .slice qa qn qc, .slice qd qm ql] 56) = W2 at *
      have HB6 : ∀ w', Below W2.heap.size W2 w' → (w'.cell? ⟨D, 6, none⟩ = some (.slice (some ⟨rg, 0, none⟩) rn rc) ∧ w'.cell? ⟨wr.heap.size, 0, none⟩ = some (.int .i64 (v : Nat))) := fun w' h => ⟨kept_c h fRv2, kept_c h (BU 0 _ rfl)⟩
      refine wp_region_noPanic (wp_region_guard (Till 7 7 (fun w' => w'.cell? ⟨D, 6, none⟩ = some (.slice (some ⟨rg, 0, none⟩) rn rc) ∧ w'.cell? ⟨wr.heap.size, 0, none⟩ = some (.int .i64 (v : Nat))) (fun _ => True)) (by as_aux_lemma => kernel_rfl) ?_)
      have hc0 : Below W2.heap.size W2 W2.drew := bel_d1 _
      generalize W2.drew = z0 at *
      refine wpAnyG.take 0 (v := .pointer (some ⟨D, 0, none⟩)) (by decide) (by as_aux_lemma => kernel_rfl) (fun _ _ _ h => h) 7 _ (by rfl) (till_ind (by decide) (by decide)) (fun L w' h1 h2 => h2.1 h1) (by as_aux_lemma => kernel_rfl) (by as_aux_lemma => kernel_rfl) (by as_aux_lemma => kernel_rfl) (by rfl) ?y0 ⟨fun _ => HB6 _ hc0, fun _ => trivial⟩ (by rfl) ?_
      case y0 =>
        rintro w' ⟨q0, q1⟩
        simp only [List.getElem_toArray, List.getElem_cons_zero]
        go_simp
      simp only [List.getElem_toArray, List.getElem_cons_zero, Act.put, List.setIfInBounds_toArray, List.set_cons_zero, List.set_cons_succ]
      refine wpAnyG.take 1 (v := .pointer (some ⟨D, 0, none⟩)) (by decide) (by as_aux_lemma => kernel_rfl) (fun _ _ _ h => h) 7 _ (by rfl) (till_ind (by decide) (by decide)) (fun L w' h1 h2 => h2.1 h1) (by as_aux_lemma => kernel_rfl) (by as_aux_lemma => kernel_rfl) (by as_aux_lemma => kernel_rfl) (by rfl) ?y1 ⟨fun _ => HB6 _ hc0, fun _ => trivial⟩ (by rfl) ?_
      case y1 =>
        rintro w' ⟨q0, q1⟩
        simp only [List.getElem_toArray, List.getElem_cons_zero, List.getElem_cons_succ]
        go_simp
      simp only [List.getElem_toArray, List.getElem_cons_zero, List.getElem_cons_succ, Act.put, List.setIfInBounds_toArray, List.set_cons_zero, List.set_cons_succ]
      refine wpAnyG.take 2 (v := .pointer (some ⟨D, 6, none⟩)) (by decide) (by as_aux_lemma => kernel_rfl) (fun _ _ _ h => h) 7 _ (by rfl) (till_ind (by decide) (by decide)) (fun L w' h1 h2 => h2.1 h1) (by as_aux_lemma => kernel_rfl) (by as_aux_lemma => kernel_rfl) (by as_aux_lemma => kernel_rfl) (by rfl) ?y2 ⟨fun _ => HB6 _ hc0, fun _ => trivial⟩ (by rfl) ?_
      case y2 =>
        rintro w' ⟨q0, q1⟩
        simp only [List.getElem_toArray, List.getElem_cons_zero, List.getElem_cons_succ]
        go_simp
      simp only [List.getElem_toArray, List.getElem_cons_zero, List.getElem_cons_succ, Act.put, List.setIfInBounds_toArray, List.set_cons_zero, List.set_cons_succ]
      refine wpAnyG.take 3 (v := .slice (some ⟨rg, 0, none⟩) rn rc) (by decide) (by as_aux_lemma => kernel_rfl) (fun _ _ _ h => h) 7 _ (by rfl) (till_ind (by decide) (by decide)) (fun L w' h1 h2 => h2.1 h1) (by as_aux_lemma => kernel_rfl) (by as_aux_lemma => kernel_rfl) (by as_aux_lemma => kernel_rfl) (by rfl) ?y3 ⟨fun _ => HB6 _ hc0, fun _ => trivial⟩ (by rfl) ?_
      case y3 =>
        rintro w' ⟨q0, q1⟩
        simp only [List.getElem_toArray, List.getElem_cons_zero, List.getElem_cons_succ]
        go_simp
      simp only [List.getElem_toArray, List.getElem_cons_zero, List.getElem_cons_succ, Act.put, List.setIfInBounds_toArray, List.set_cons_zero, List.set_cons_succ]
      refine wpAnyG.take 4 (v := .pointer (some ⟨wr.heap.size, 0, none⟩)) (by decide) (by as_aux_lemma => kernel_rfl) (fun _ _ _ h => h) 7 _ (by rfl) (till_ind (by decide) (by decide)) (fun L w' h1 h2 => h2.1 h1) (by as_aux_lemma => kernel_rfl) (by as_aux_lemma => kernel_rfl) (by as_aux_lemma => kernel_rfl) (by rfl) ?y4 ⟨fun _ => HB6 _ hc0, fun _ => trivial⟩ (by rfl) ?_
      case y4 =>
        rintro w' ⟨q0, q1⟩
        simp only [List.getElem_toArray, List.getElem_cons_zero, List.getElem_cons_succ]
        go_simp
      simp only [List.getElem_toArray, List.getElem_cons_zero, List.getElem_cons_succ, Act.put, List.setIfInBounds_toArray, List.set_cons_zero, List.set_cons_succ]
      refine wpAnyG.take 5 (v := .int .i64 (v : Nat)) (by decide) (by as_aux_lemma => kernel_rfl) (fun _ _ _ h => h) 7 _ (by rfl) (till_ind (by decide) (by decide)) (fun L w' h1 h2 => h2.1 h1) (by as_aux_lemma => kernel_rfl) (by as_aux_lemma => kernel_rfl) (by as_aux_lemma => kernel_rfl) (by rfl) ?y5 ⟨fun _ => HB6 _ hc0, fun _ => trivial⟩ (by rfl) ?_
      case y5 =>
        rintro w' ⟨q0, q1⟩
        simp only [List.getElem_toArray, List.getElem_cons_zero, List.getElem_cons_succ]
        go_simp
      simp only [List.getElem_toArray, List.getElem_cons_zero, List.getElem_cons_succ, Act.put, List.setIfInBounds_toArray, List.set_cons_zero, List.set_cons_succ]
      refine wpAnyG.take 6 (v := .pointer (some ⟨rg, v * 10, none⟩)) (by decide) (by as_aux_lemma => kernel_rfl) (fun _ _ _ h => h) 7 _ (by rfl) (till_ind (by decide) (by decide)) (fun L w' h1 h2 => h2.1 h1) (by as_aux_lemma => kernel_rfl) (by as_aux_lemma => kernel_rfl) (by as_aux_lemma => kernel_rfl) (by rfl) ?y6 ⟨fun _ => HB6 _ hc0, fun _ => trivial⟩ (by rfl) ?_
      case y6 =>
        rintro w' ⟨q0, q1⟩
        simp only [List.getElem_toArray, List.getElem_cons_zero, List.getElem_cons_succ]
        go_simp
      simp only [List.getElem_toArray, List.getElem_cons_zero, List.getElem_cons_succ, Act.put, List.setIfInBounds_toArray, List.set_cons_zero, List.set_cons_succ]
      refine wpAnyG.one 7 (by as_aux_lemma => kernel_rfl) (by decide) (by rfl) (fun K hK => ?_)
      simp only [List.getElem_toArray, List.getElem_cons_zero, List.getElem_cons_succ]
      go_simp
      refine hK _ _ ⟨fun h => absurd h (by decide), fun _ => trivial⟩ ?_
      clear hK K
      refine wpAnyG.done (by as_aux_lemma => kernel_rfl) (NoPanic.normal ?_)
      have DU3 := DU2.below hc0
      have SLT := SLT2.below hc0
      have GC := GC2.below hc0
      have hT3 := hT2.below hc0
      have HB7 : ∀ w', Below z0.heap.size z0 w' → (w'.cell? ⟨rg, v * 10 + 1, none⟩ = some (.slice ua um uc) ∧ w'.cell? ⟨wr.heap.size, 1, none⟩ = some (.bool q0) ∧ w'.cell? ⟨wr.heap.size, 2, none⟩ = some (.slice qa qn qc) ∧ w'.cell? ⟨wr.heap.size, 3, none⟩ = some (.slice qd qm ql)) := fun w' h => ⟨kept_c h (kept_c hc0 fT2), kept_c h (kept_c hc0 (BU 1 _ rfl)), kept_c h (kept_c hc0 (BU 2 _ rfl)), kept_c h (kept_c hc0 (BU 3 _ rfl))⟩
      have hsz0 := hc0.size
      have hbz := bel_tr hzz hc0
      have TE3 : ∀ i, i < (pushs R vn s t Z q v).m → TC z0 F (E7 i) ((pushs R vn s t Z q v).t i) ((pushs R vn s t Z q v).Z i) := fun i hi => (TE i hi).below hbz
      clear HB6 hc0 DU2 SLT2 GC2 hT2 fT2 fRv2 BU TE
      go_wp2_with fail
      refine wp_region_noPanic (wp_region_guard (Till 13 13 (fun w' => w'.cell? ⟨rg, v * 10 + 1, none⟩ = some (.slice ua um uc) ∧ w'.cell? ⟨wr.heap.size, 1, none⟩ = some (.bool q0) ∧ w'.cell? ⟨wr.heap.size, 2, none⟩ = some (.slice qa qn qc) ∧ w'.cell? ⟨wr.heap.size, 3, none⟩ = some (.slice qd qm ql)) (fun _ => True)) (by as_aux_lemma => kernel_rfl) ?_)
      have hc0 : Below z0.heap.size z0 z0.drew := bel_d1 _
      generalize z0.drew = y0 at *
      refine wpAnyG.take 0 (v := .pointer (some ⟨rg, v * 10, none⟩)) (by decide) (by as_aux_lemma => kernel_rfl) (fun _ _ _ h => h) 13 _ (by rfl) (till_ind (by decide) (by decide)) (fun L w' h1 h2 => h2.1 h1) (by as_aux_lemma => kernel_rfl) (by as_aux_lemma => kernel_rfl) (by as_aux_lemma => kernel_rfl) (by rfl) ?y0 ⟨fun _ => HB7 _ hc0, fun _ => trivial⟩ (by rfl) ?_
      case y0 =>
        rintro w' ⟨x0, x1, x2, x3⟩
        simp only [List.getElem_toArray, List.getElem_cons_zero]
        go_simp
      simp only [List.getElem_toArray, List.getElem_cons_zero, Act.put, List.setIfInBounds_toArray, List.set_cons_zero, List.set_cons_succ]
      refine wpAnyG.take 1 (v := .pointer (some ⟨rg, v * 10, none⟩)) (by decide) (by as_aux_lemma => kernel_rfl) (fun _ _ _ h => h) 13 _ (by rfl) (till_ind (by decide) (by decide)) (fun L w' h1 h2 => h2.1 h1) (by as_aux_lemma => kernel_rfl) (by as_aux_lemma => kernel_rfl) (by as_aux_lemma => kernel_rfl) (by rfl) ?y1 ⟨fun _ => HB7 _ hc0, fun _ => trivial⟩ (by rfl) ?_
      case y1 =>
        rintro w' ⟨x0, x1, x2, x3⟩
        simp only [List.getElem_toArray, List.getElem_cons_zero, List.getElem_cons_succ]
        go_simp
      simp only [List.getElem_toArray, List.getElem_cons_zero, List.getElem_cons_succ, Act.put, List.setIfInBounds_toArray, List.set_cons_zero, List.set_cons_succ]
      refine wpAnyG.take 2 (v := .pointer (some ⟨rg, v * 10, none⟩)) (by decide) (by as_aux_lemma => kernel_rfl) (fun _ _ _ h => h) 13 _ (by rfl) (till_ind (by decide) (by decide)) (fun L w' h1 h2 => h2.1 h1) (by as_aux_lemma => kernel_rfl) (by as_aux_lemma => kernel_rfl) (by as_aux_lemma => kernel_rfl) (by rfl) ?y2 ⟨fun _ => HB7 _ hc0, fun _ => trivial⟩ (by rfl) ?_
      case y2 =>
        rintro w' ⟨x0, x1, x2, x3⟩
        simp only [List.getElem_toArray, List.getElem_cons_zero, List.getElem_cons_succ]
        go_simp
      simp only [List.getElem_toArray, List.getElem_cons_zero, List.getElem_cons_succ, Act.put, List.setIfInBounds_toArray, List.set_cons_zero, List.set_cons_succ]
      refine wpAnyG.take 3 (v := .pointer (some ⟨rg, v * 10 + 1, none⟩)) (by decide) (by as_aux_lemma => kernel_rfl) (fun _ _ _ h => h) 13 _ (by rfl) (till_ind (by decide) (by decide)) (fun L w' h1 h2 => h2.1 h1) (by as_aux_lemma => kernel_rfl) (by as_aux_lemma => kernel_rfl) (by as_aux_lemma => kernel_rfl) (by rfl) ?y3 ⟨fun _ => HB7 _ hc0, fun _ => trivial⟩ (by rfl) ?_
      case y3 =>
        rintro w' ⟨x0, x1, x2, x3⟩
        simp only [List.getElem_toArray, List.getElem_cons_zero, List.getElem_cons_succ]
        go_simp
      simp only [List.getElem_toArray, List.getElem_cons_zero, List.getElem_cons_succ, Act.put, List.setIfInBounds_toArray, List.set_cons_zero, List.set_cons_succ]
      refine wpAnyG.take 4 (v := .slice ua um uc) (by decide) (by as_aux_lemma => kernel_rfl) (fun _ _ _ h => h) 13 _ (by rfl) (till_ind (by decide) (by decide)) (fun L w' h1 h2 => h2.1 h1) (by as_aux_lemma => kernel_rfl) (by as_aux_lemma => kernel_rfl) (by as_aux_lemma => kernel_rfl) (by rfl) ?y4 ⟨fun _ => HB7 _ hc0, fun _ => trivial⟩ (by rfl) ?_
      case y4 =>
        rintro w' ⟨x0, x1, x2, x3⟩
        simp only [List.getElem_toArray, List.getElem_cons_zero, List.getElem_cons_succ]
        go_simp
      simp only [List.getElem_toArray, List.getElem_cons_zero, List.getElem_cons_succ, Act.put, List.setIfInBounds_toArray, List.set_cons_zero, List.set_cons_succ]
      refine wpAnyG.take 5 (v := .int .i64 (vn : Nat)) (by decide) (by as_aux_lemma => kernel_rfl) (fun _ _ _ h => h) 13 _ (by rfl) (till_ind (by decide) (by decide)) (fun L w' h1 h2 => h2.1 h1) (by as_aux_lemma => kernel_rfl) (by as_aux_lemma => kernel_rfl) (by as_aux_lemma => kernel_rfl) (by rfl) ?y5 ⟨fun _ => HB7 _ hc0, fun _ => trivial⟩ (by rfl) ?_
      case y5 =>
        rintro w' ⟨x0, x1, x2, x3⟩
        simp only [List.getElem_toArray, List.getElem_cons_zero, List.getElem_cons_succ]
        go_simp
      simp only [List.getElem_toArray, List.getElem_cons_zero, List.getElem_cons_succ, Act.put, List.setIfInBounds_toArray, List.set_cons_zero, List.set_cons_succ]
      refine wpAnyG.take 6 (v := .func (.func fN) #[] #[]) (by decide) (by as_aux_lemma => kernel_rfl) (fun _ _ _ h => h) 13 _ (by rfl) (till_ind (by decide) (by decide)) (fun L w' h1 h2 => h2.1 h1) (by as_aux_lemma => kernel_rfl) (by as_aux_lemma => kernel_rfl) (by as_aux_lemma => kernel_rfl) (by rfl) ?y6 ⟨fun _ => HB7 _ hc0, fun _ => trivial⟩ (by rfl) ?_
      case y6 =>
        rintro w' ⟨x0, x1, x2, x3⟩
        simp only [List.getElem_toArray, List.getElem_cons_zero, List.getElem_cons_succ]
        go_simp
      simp only [List.getElem_toArray, List.getElem_cons_zero, List.getElem_cons_succ, Act.put, List.setIfInBounds_toArray, List.set_cons_zero, List.set_cons_succ]
      refine wpAnyG.take 7 (v := .pointer (some ⟨wr.heap.size, 1, none⟩)) (by decide) (by as_aux_lemma => kernel_rfl) (fun _ _ _ h => h) 13 _ (by rfl) (till_ind (by decide) (by decide)) (fun L w' h1 h2 => h2.1 h1) (by as_aux_lemma => kernel_rfl) (by as_aux_lemma => kernel_rfl) (by as_aux_lemma => kernel_rfl) (by rfl) ?y7 ⟨fun _ => HB7 _ hc0, fun _ => trivial⟩ (by rfl) ?_
      case y7 =>
        rintro w' ⟨x0, x1, x2, x3⟩
        simp only [List.getElem_toArray, List.getElem_cons_zero, List.getElem_cons_succ]
        go_simp
      simp only [List.getElem_toArray, List.getElem_cons_zero, List.getElem_cons_succ, Act.put, List.setIfInBounds_toArray, List.set_cons_zero, List.set_cons_succ]
      refine wpAnyG.take 8 (v := .agg #[.bool q0, .slice qa qn qc, .slice qd qm ql]) (by decide) (by as_aux_lemma => kernel_rfl) (fun _ _ _ h => h) 13 _ (by rfl) (till_ind (by decide) (by decide)) (fun L w' h1 h2 => h2.1 h1) (by as_aux_lemma => kernel_rfl) (by as_aux_lemma => kernel_rfl) (by as_aux_lemma => kernel_rfl) (by rfl) ?y8 ⟨fun _ => HB7 _ hc0, fun _ => trivial⟩ (by rfl) ?_
      case y8 =>
        rintro w' ⟨x0, x1, x2, x3⟩
        simp only [List.getElem_toArray, List.getElem_cons_zero, List.getElem_cons_succ]
        go_simp
      simp only [List.getElem_toArray, List.getElem_cons_zero, List.getElem_cons_succ, Act.put, List.setIfInBounds_toArray, List.set_cons_zero, List.set_cons_succ]
      refine wpAnyG.one 9 (by as_aux_lemma => kernel_rfl) (by decide) (by rfl) (fun K hK => ?_)
      simp only [List.getElem_toArray, List.getElem_cons_zero, List.getElem_cons_succ]
      refine wp_sense _ _ _ rfl hf rfl rfl (GC.below hc0).tr hZq.2.2 hZq.2.1 (hT3.below hc0) ?_
      intro f2 c2' n2 k2 d2 m2 l2 y1 G2 hk2
      have hc2 : Below z0.heap.size z0 y1 := bel_tr hc0 hk2
      refine hK _ _ ⟨fun _ => HB7 _ hc2, fun _ => trivial⟩ ?_
      clear hK K
      refine wpAnyG.one 10 (by as_aux_lemma => kernel_rfl) (by decide) (by rfl) (fun K hK => ?_)
      simp only [List.getElem_toArray, List.getElem_cons_zero, List.getElem_cons_succ]
      go_simp
      refine hK _ _ ⟨fun _ => HB7 _ hc2, fun _ => trivial⟩ ?_
      clear hK K
      refine wpAnyG.one 11 (by as_aux_lemma => kernel_rfl) (by decide) (by rfl) (fun K hK => ?_)
      simp only [List.getElem_toArray, List.getElem_cons_zero, List.getElem_cons_succ]
      go_simp
      have hy : Below z0.heap.size z0 (y1.alloc (.cells #[.int .i64 (vn : Nat), .bool f2, .slice c2' n2 k2, .slice d2 m2 l2] 56)) := bel_a hc2
      have BX := box_new y1 #[.int .i64 (vn : Nat), .bool f2, .slice c2' n2 k2, .slice d2 m2 l2] 56
      have hs9 := hc0.size
      have G5 := (G2.mono (show F ≤ y0.heap.size by omega)).below (bel_d0 y1 (.cells #[.int .i64 (vn : Nat), .bool f2, .slice c2' n2 k2, .slice d2 m2 l2] 56))
      have hs4 : (y1.alloc (.cells #[.int .i64 (vn : Nat), .bool f2, .slice c2' n2 k2, .slice d2 m2 l2] 56)).heap.size = y1.heap.size + 1 := by simp
      generalize y1.alloc (.cells #[.int .i64 (vn : Nat), .bool f2, .slice c2' n2 k2, .slice d2 m2 l2] 56) = y5 at *
      refine hK _ _ ⟨fun _ => HB7 _ hy, fun _ => trivial⟩ ?_
      clear hK K
      refine wpAnyG.one 12 (by as_aux_lemma => kernel_rfl) (by decide) (by rfl) (fun K hK => ?_)
      simp only [List.getElem_toArray, List.getElem_cons_zero, List.getElem_cons_succ]
      have DZ := DU3.below hy
      have SLZ := SLT.below hy
      have hsy := hy.size
      refine wp_appendS y5 _ _ 57 56 4 64 rfl Tryz.underlying57 infTerm (by decide) (by decide) F (.slice ua um uc) um E7 rfl SLZ y1.heap.size 1 rfl [.int .i64 (vn : Nat), .bool f2, .slice c2' n2 k2, .slice d2 m2 l2] rfl (fun u hu => by simp at hu; rcases hu with rfl | rfl | rfl | rfl <;> rfl) BX (by omega) (by omega) _ rfl ?_
      intro g7 cap7 w8 SN hg hat hgl
      have hrb : (Value.slice ra rn rc).ownBlock = some rg := by rw [HRA.out]; rfl
      obtain ⟨Er, s1, s2⟩ := id DZ.r
      have s3 := s1.kept hg (fun k e e2 => s1.ne2 SLZ (by decide) k e e2)
      have hrw8 : ∃ cur, w8.heap[rg]? = some (.cells cur 59 (0, 0)) := s3.typ hrb
      obtain ⟨cur8, hrw8⟩ := hrw8
      have e1 := frozen_of_row w8 rg (v * 10 + 1) cur8 59 hrw8
      have eb : w8.heap[wr.heap.size]? = y5.heap[wr.heap.size]? := hg.block _ (by omega) (fun e => hbT e.symm)
      have er : w8.heap[rg]? = y5.heap[rg]? := hg.block _ (by have := (s1.lt rg hrb).2; omega) (fun e => s1.ne2 SLZ (by decide) rg hrb e.symm)
      have e0 := (World.cell?_of_block (w := y5) (a := ⟨rg, v * 10 + 1, none⟩) er).trans (HB7 _ hy).1
      refine hK _ _ ⟨fun _ => ⟨e0, (World.cell?_of_block (w := y5) eb).trans (HB7 _ hy).2.1, (World.cell?_of_block (w := y5) eb).trans (HB7 _ hy).2.2.1, (World.cell?_of_block (w := y5) eb).trans (HB7 _ hy).2.2.2⟩, fun _ => trivial⟩ ?_
      clear hK K
      refine wpAnyG.one 13 (by as_aux_lemma => kernel_rfl) (by decide) (by rfl) (fun K hK => ?_)
      simp only [List.getElem_toArray, List.getElem_cons_zero, List.getElem_cons_succ]
      go_simp
      refine hK _ _ ⟨fun h => absurd h (by decide), fun _ => trivial⟩ ?_
      clear hK K
      refine wpAnyG.one 14 (by as_aux_lemma => kernel_rfl) (by decide) (by rfl) (fun K hK => ?_)
      simp only [List.getElem_toArray, List.getElem_cons_zero, List.getElem_cons_succ]
      go_simp
      refine hK _ _ ⟨fun h => absurd h (by decide), fun _ => trivial⟩ ?_
      clear hK K
      refine wpAnyG.one 15 (by as_aux_lemma => kernel_rfl) (by decide) (by rfl) (fun K hK => ?_)
      simp only [List.getElem_toArray, List.getElem_cons_zero, List.getElem_cons_succ]
      go_simp
      refine hK _ _ ⟨fun h => absurd h (by decide), fun _ => trivial⟩ ?_
      clear hK K
      refine wpAnyG.done (by as_aux_lemma => kernel_rfl) (NoPanic.normal ?_)
      rw [HUM.out] at SN
      have hg2 : y5.grownBy w8 (tv' v).ownBlock := by rw [HTV.out]; exact hg
      have hat2 : (tv' v).ownBlock = some g7 ∨ g7 = y5.heap.size := by rw [HTV.out]; exact hat
      have SLZ2 : SL y5 F 56 4 (tv' v) (pushs R vn s t Z q v).m E7 := by rw [HTV.out, ← HUM.out]; exact SLZ
      obtain ⟨DN, KN⟩ := DU.addT (x := ⟨(vn : Int), dsg s (t q).coef⟩) (y := Z q) (rg := rg) (rc := rc) DZ hvl (by rw [← HRA.out]) SLZ2 (fun i hi => (TE3 i hi).below hy) SN hg2 hat2 ⟨_, _, _, _, _, _, _, rfl, G5⟩
      rw [← HUM.out] at DN KN
      have KT := (KU.bel (bel_tr hbz hy)).trans KN
      have ep : pushs R vn s t Z (q + 1) = fun i => if i = v then (pushs R vn s t Z q i).push ⟨(vn : Int), dsg s (t q).coef⟩ (Z q) else pushs R vn s t Z q i := by
        show (fun j => if j = (t q).var.toNat then (pushs R vn s t Z q j).push ⟨(vn : Int), dsg s (t q).coef⟩ (Z q) else pushs R vn s t Z q j) = _
        rw [← HEV.out]
      rw [← ep] at DN
      clear SN hg2 hat2 SLZ2 KN ep hg hat hgl s1 s2 s3 hrw8 e0 e1 eb er DZ SLZ BX G5 hy HB7 DU3 SLT GC hT3 TE3 KU hbz hzz hk2 hc0 hc2 G2
      generalize w8.setCell ⟨rg, v * 10 + 1, none⟩ (.slice (some ⟨g7, 0, none⟩) (um + 1) cap7) = w9 at *
      try rw [← HRA.out]
      try rw [← hta']
      clear hta'
      go_wp2
      go_roundw
      case rel => first | exact ⟨q + 1, _, by omega, by go_num, DN, KT⟩ | ((repeat apply Exists.intro); refine ⟨?_, rfl⟩; exact ⟨q + 1, _, by omega, by go_num, DN, KT⟩)
      case measure => simp [intOf]; omega
    · have hkI : ¬ (q : Int) < (nt : Int) := by omega
      obtain rfl : q = nt := by omega
      go_wp2
      go_end0
      exact ⟨rfl, _, rfl, rfl, DQ, KU⟩
end Go.Proofs.YtkgnbcbcgnlodaaGreatDoor

import Derived.Test.YtimdohckhfmhiaaGreatDoorPqC
import Derived.Test.YtimdohckhfmhiaaGreatDoorPqA
namespace Go.Proofs.YtimdohckhfmhiaaGreatDoor
open Go.RowKit

set_option maxHeartbeats 2000000 in
theorem knownQ (P : Prob) (xa : Option Addr) (n xc m : Nat) (w : World) (hn : n ≤ xc) (hm : m = min n P.vn) :
    Calls Tryz.prog 63 #[P.val, .slice xa n xc] w fun e w' => e = .returned (.slice xa m xc) ∧ Below w.heap.size w w' := by
  unfold Prob.val
  have x0 := bel_d0 w (.cells #[.bool P.mx, .string P.nm, .bool P.p, .slice P.a P.na P.ca, .slice P.d P.nd P.cd, .slice P.va P.vn P.vc, .slice P.ra P.rn P.rc] 31)
  go_enter Tryz.func63, Tryz.ntmps63
  go_wp2
  go_ret
  exact ⟨by rw [hm, show (min (n : Int) (P.vn : Int)).toNat = min n P.vn by omega]; rfl, x0⟩
/-- The summands of a value: Const, and each Obj times its variable. -/
def prt (k : Rat) (V : Nat → PV) (X : Nat → Rat) : Nat → Rat
  | 0 => k
  | i + 1 => (V i).obj * X i
set_option maxRecDepth 100000 in
set_option maxHeartbeats 4000000 in
theorem valueQ (P : Prob) {xa : Option Addr} {n xc : Nat} {X : Nat → Rat} {Z : Nat → Nat} {S T m : Nat} (w : World) (hP : PQ w P) (hx : LQ w xa n X Z) (hn : n ≤ xc) (hm : m = min n P.vn) (hK : P.S ≤ S) (hz : ∀ j, j < m → 1 ≤ Z j ∧ P.ZV j + Z j ≤ S)
    (hST : T + S ≤ 6000000) (hT1 : 1 ≤ T) (hsz : ∀ j, j ≤ m + 1 → SzR (rsum (prt P.k P.V X) j) T) (hm1 : m ≤ 1048576) (hT : TB w) :
    Calls Tryz.prog 24 #[P.val, .slice xa n xc] w fun e w' => ∃ f c n1 k1 c' n' k', e = .returned (.agg #[.bool f, .slice c n1 k1, .slice c' n' k']) ∧ GR w' w.heap.size f c n1 k1 c' n' k' (rsum (prt P.k P.V X) (m + 1)) T ∧ Below w.heap.size w w' := by
  have HS : Hid (∀ j, j ≤ m + 1 → SzR (rsum (prt P.k P.V X) j) T) := hsz
  clear hsz
  unfold Prob.val
  go_enter Tryz.func24, Tryz.ntmps24
  go_wp2_with fail
  obtain ⟨P0, P1, _, hb, hs⟩ := boxc3 w #[.bool P.mx, .string P.nm, .bool P.p, .slice P.a P.na P.ca, .slice P.d P.nd P.cd, .slice P.va P.vn P.vc, .slice P.ra P.rn P.rc] 31 #[.bool false, .slice none 0 0, .slice none 0 0] 27 #[.bool P.p, .slice P.a P.na P.ca, .slice P.d P.nd P.cd] 27
  have R0 : Var3 (((w.alloc (.cells #[.bool P.mx, .string P.nm, .bool P.p, .slice P.a P.na P.ca, .slice P.d P.nd P.cd, .slice P.va P.vn P.vc, .slice P.ra P.rn P.rc] 31)).alloc (.cells #[.bool false, .slice none 0 0, .slice none 0 0] 27)).alloc (.cells #[.bool P.p, .slice P.a P.na P.ca, .slice P.d P.nd P.cd] 27)) (w.heap.size + 1) (.bool false) (.slice none 0 0) (.slice none 0 0) := by
    have h := (var3_new (w.alloc (.cells #[.bool P.mx, .string P.nm, .bool P.p, .slice P.a P.na P.ca, .slice P.d P.nd P.cd, .slice P.va P.vn P.vc, .slice P.ra P.rn P.rc] 31)) (.bool false) (.slice none 0 0) (.slice none 0 0) 27).alloc (.cells #[.bool P.p, .slice P.a P.na P.ca, .slice P.d P.nd P.cd] 27)
    simpa using h
  have L0 : ML (((w.alloc (.cells #[.bool P.mx, .string P.nm, .bool P.p, .slice P.a P.na P.ca, .slice P.d P.nd P.cd, .slice P.va P.vn P.vc, .slice P.ra P.rn P.rc] 31)).alloc (.cells #[.bool false, .slice none 0 0, .slice none 0 0] 27)).alloc (.cells #[.bool P.p, .slice P.a P.na P.ca, .slice P.d P.nd P.cd] 27)) (w.heap.size + 2) (.slice (some ⟨w.heap.size + 2, 0, none⟩) 1 1) 1 (prt P.k P.V X) S :=
    ML.one (EL.of_tr (((hP.k.up hK).below (bel_d0 _ _)).below (bel_d0 _ _)) (by simp)) (by simp) _ (by simp)
  generalize ((w.alloc (.cells #[.bool P.mx, .string P.nm, .bool P.p, .slice P.a P.na P.ca, .slice P.d P.nd P.cd, .slice P.va P.vn P.vc, .slice P.ra P.rn P.rc] 31)).alloc (.cells #[.bool false, .slice none 0 0, .slice none 0 0] 27)).alloc (.cells #[.bool P.p, .slice P.a P.na P.ca, .slice P.d P.nd P.cd] 27) = W at *
  refine (knownQ P xa n xc m W hn hm).mono ?_
  have hmn : m ≤ n := by omega
  have hmv : m ≤ P.vn := by omega
  clear hm
  rintro e w1 ⟨rfl, h1⟩
  have hs1 := Below.size h1
  replace P0 := P0.below h1
  replace R0 := R0.below h1
  replace L0 := L0.below (by omega) h1
  replace hb := bel_tr hb h1
  clear h1 P1
  go_wp2
  go_loopw [5, 15] (fun s5 s15 wr => ∃ (i : Nat), i ≤ m ∧ s15 = .int .i64 i ∧ ML wr (w.heap.size + 2) s5 (i + 1) (prt P.k P.V X) S ∧ Var3 wr (w.heap.size + 1) (.bool false) (.slice none 0 0) (.slice none 0 0) ∧ BoxC wr w.heap.size #[.bool P.mx, .string P.nm, .bool P.p, .slice P.a P.na P.ca, .slice P.d P.nd P.cd, .slice P.va P.vn P.vc, .slice P.ra P.rn P.rc].toList ∧ Below w.heap.size w wr ∧ w.heap.size + 3 ≤ wr.heap.size) (fun _ s15 _ => m - (intOf s15).toNat)
  case atStart => exact ⟨0, Nat.zero_le _, rfl, L0, R0, P0, hb, by omega⟩
  case round =>
    obtain ⟨i, hi, rfl, L, R, Pb, hbel, hsr⟩ := hrel
    clear L0 R0 P0 hb
    obtain ⟨o1, k1, rfl⟩ := L.form
    by_cases hlt : i < m
    · have hkI : (i : Int) < (m : Int) := by omega
      obtain ⟨hz1, hz2⟩ := hz i hlt
      obtain ⟨q5, _⟩ : wr.cell? ⟨w.heap.size, 5, none⟩ = some (.slice P.va P.vn P.vc) ∧ True := ⟨Pb 5 _ rfl, trivial⟩
      rcases (hx.below hbel) with h0 | ⟨bx, ox, rfl, hel⟩
      · omega
      obtain ⟨pA, aA, nA, cA, dA, mA, lA, c0, c1, c2, hA⟩ := hel i (by omega)
      rcases (hP.v.below hbel) with h0 | ⟨bv, ov, hva, hev⟩
      · omega
      have hV := hev i (by omega)
      obtain ⟨pO, aO, nO, cO, dO, mO, lO, v0, v1, v2, hO⟩ := hV.obj
      have hs1v := hV.s1
      have hkI2 : (i : Int) * 3 = ((i * 3 : Nat) : Int) := by omega
      have hkI3 : (i : Int) * 13 = ((i * 13 : Nat) : Int) := by omega
      clear hel hev hV
      have hva' : P.va = some ⟨bv, ov, none⟩ := hva
      rw [hva'] at q5
      have hvI : (i : Int) < (P.vn : Int) := by omega
      have hbv : bv < w.heap.size := by
        rcases hP.v with h0 | ⟨b', o', e', hev'⟩
        · omega
        · rw [e'] at hva'
          simp only [Option.some.injEq, Addr.mk.injEq] at hva'
          obtain ⟨rfl, _, _⟩ := hva'
          exact World.block_lt_of_cell? _ _ (hev' i (by omega)).nm
      go_wp2_with fail
      have N := var3_new wr (.bool pA) (.slice aA nA cA) (.slice dA mA lA) 27
      have hz := bel_d0 wr (.cells #[.bool pA, .slice aA nA cA, .slice dA mA lA] 27)
      have hsz2 : (wr.alloc (.cells #[.bool pA, .slice aA nA cA, .slice dA mA lA] 27)).heap.size = wr.heap.size + 1 := by simp
      have hrow : ∀ g, (Value.slice o1 (i + 1) k1).ownBlock = some g → w.heap.size + 2 ≤ g ∧ g < wr.heap.size := fun g hg => L.lt g hg
      replace L := L.below (by omega) hz
      replace R := R.below hz
      replace Pb := Pb.below hz
      replace hA := hA.below hz
      replace hO := hO.below hz
      have hTw := hT.below (bel_tr hbel hz)
      replace hbel := bel_tr hbel hz
      have q5' := kept_c hz q5
      have v0' := kept_c hz v0
      have v1' := kept_c hz v1
      have v2' := kept_c hz v2
      generalize wr.alloc (.cells #[.bool pA, .slice aA nA cA, .slice dA mA lA] 27) = W2 at *
      have HB : ∀ w', Below W2.heap.size W2 w' → (w'.cell? ⟨w.heap.size, 5, none⟩ = some (.slice (some ⟨bv, ov, none⟩) P.vn P.vc) ∧ w'.cell? ⟨bv, ov + i * 13 + 1, none⟩ = some (.bool pO) ∧ w'.cell? ⟨bv, ov + i * 13 + 1 + 1, none⟩ = some (.slice aO nO cO) ∧ w'.cell? ⟨bv, ov + i * 13 + 1 + 2, none⟩ = some (.slice dO mO lO) ∧ w'.cell? ⟨wr.heap.size, 0, none⟩ = some (.bool pA) ∧ w'.cell? ⟨wr.heap.size, 1, none⟩ = some (.slice aA nA cA) ∧ w'.cell? ⟨wr.heap.size, 2, none⟩ = some (.slice dA mA lA)) :=
        fun w' h => ⟨kept_c h q5', kept_c h v0', kept_c h v1', kept_c h v2', kept_c h N.c0, kept_c h N.c1, kept_c h N.c2⟩
      have HG : ∀ V w' : World, (V.cell? ⟨w.heap.size, 5, none⟩ = some (.slice (some ⟨bv, ov, none⟩) P.vn P.vc) ∧ V.cell? ⟨bv, ov + i * 13 + 1, none⟩ = some (.bool pO) ∧ V.cell? ⟨bv, ov + i * 13 + 1 + 1, none⟩ = some (.slice aO nO cO) ∧ V.cell? ⟨bv, ov + i * 13 + 1 + 2, none⟩ = some (.slice dO mO lO) ∧ V.cell? ⟨wr.heap.size, 0, none⟩ = some (.bool pA) ∧ V.cell? ⟨wr.heap.size, 1, none⟩ = some (.slice aA nA cA) ∧ V.cell? ⟨wr.heap.size, 2, none⟩ = some (.slice dA mA lA)) → V.grownBy w' (Value.slice o1 (i + 1) k1).ownBlock → (w'.cell? ⟨w.heap.size, 5, none⟩ = some (.slice (some ⟨bv, ov, none⟩) P.vn P.vc) ∧ w'.cell? ⟨bv, ov + i * 13 + 1, none⟩ = some (.bool pO) ∧ w'.cell? ⟨bv, ov + i * 13 + 1 + 1, none⟩ = some (.slice aO nO cO) ∧ w'.cell? ⟨bv, ov + i * 13 + 1 + 2, none⟩ = some (.slice dO mO lO) ∧ w'.cell? ⟨wr.heap.size, 0, none⟩ = some (.bool pA) ∧ w'.cell? ⟨wr.heap.size, 1, none⟩ = some (.slice aA nA cA) ∧ w'.cell? ⟨wr.heap.size, 2, none⟩ = some (.slice dA mA lA)) :=
        fun V w' h hg => ⟨keep_ne hg h.1 (fun e => by have := hrow _ e; simp at this; omega), keep_ne hg h.2.1 (fun e => by have := hrow _ e; simp at this; omega), keep_ne hg h.2.2.1 (fun e => by have := hrow _ e; simp at this; omega), keep_ne hg h.2.2.2.1 (fun e => by have := hrow _ e; simp at this; omega), keep_ne hg h.2.2.2.2.1 (fun e => by have := hrow _ e; simp at this), keep_ne hg h.2.2.2.2.2.1 (fun e => by have := hrow _ e; simp at this), keep_ne hg h.2.2.2.2.2.2 (fun e => by have := hrow _ e; simp at this)⟩
      clear q5 v0 v1 v2 c0 c1 c2 hz
      obtain ⟨n0, n1, n2, _, _, _⟩ := id N
      go_region_held3 (fun w' => w'.cell? ⟨w.heap.size, 5, none⟩ = some (.slice (some ⟨bv, ov, none⟩) P.vn P.vc) ∧ w'.cell? ⟨bv, ov + i * 13 + 1, none⟩ = some (.bool pO) ∧ w'.cell? ⟨bv, ov + i * 13 + 1 + 1, none⟩ = some (.slice aO nO cO) ∧ w'.cell? ⟨bv, ov + i * 13 + 1 + 2, none⟩ = some (.slice dO mO lO) ∧ w'.cell? ⟨wr.heap.size, 0, none⟩ = some (.bool pA) ∧ w'.cell? ⟨wr.heap.size, 1, none⟩ = some (.slice aA nA cA) ∧ w'.cell? ⟨wr.heap.size, 2, none⟩ = some (.slice dA mA lA))
        (first | (with_reducible refine HG _ _ (HB _ ?_) hgrow; repeat' (first | with_reducible exact hc1 | with_reducible exact Below.refl _ _ | with_reducible refine bel_dr ?_ | with_reducible refine bel_a ?_)) | (with_reducible refine HB _ ?_; repeat' (first | with_reducible exact hc1 | with_reducible exact Below.refl _ _ | with_reducible refine bel_dr ?_ | with_reducible refine bel_a ?_)))
        ((first
          | (go_at_call 29; go_fit (mulQ _ (hO.below (by first | exact bel_d1 _ | exact bel_d2 _ _)) (hA.below (by first | exact bel_d1 _ | exact bel_d2 _ _)) (by omega) (by omega) (by omega) (hTw.below (by first | exact bel_d1 _ | exact bel_d2 _ _))); rintro e v1 ⟨f2, c2, n2, k2, c3, n3, k3, rfl, G2, hb1⟩; have hc1 : Below W2.heap.size W2 v1 := (by first | exact bel_tr (bel_d1 _) hb1 | exact bel_tr (bel_d2 _ _) hb1); have hsv1 := Below.size hc1)
          | (refine step_appendM _ (by rfl) _ _ (by rfl) (w.heap.size + 2) (.slice o1 (i + 1) k1) (i + 1) (prt P.k P.V X) S (by rfl) ((L.below (by omega) hc1).below (by omega) (bel_d0 _ _)) v1.heap.size _ (by rfl) f2 c2 n2 k2 c3 n3 k3 _ (cell_new3 (by rfl)) (.inl (((G2.below (bel_d0 _ _)).mono (by simp; omega)).le (by omega))) (by omega) (by simp; omega) (v1.heap.size + 1) (by simp) ?_; intro g cap1 w3 LN hgrow hat hlt1)))
      have LN' : ML w3 (w.heap.size + 2) (.slice (some ⟨g, 0, none⟩) (i + 1 + 1) cap1) (i + 1 + 1) (prt P.k P.V X) S := LN.congr (fun j hj => by
        by_cases h : j < i + 1
        · simp only [h, if_true]
        · obtain rfl : j = i + 1 := by omega
          simp only [h, if_false]
          rfl)
      have R' := ((R.below hc1).alloc (.cells #[.bool f2, .slice c2 n2 k2, .slice c3 n3 k3] 27)).grown hgrow (fun e => by have := hrow _ e; omega)
      have Pb' : BoxC w3 w.heap.size _ := fun j u hu => keep_ne hgrow (((Pb.below hc1).below (bel_d0 v1 _)) j u hu) (fun e => by have := hrow _ e; simp at this; omega)
      have hg2 := grown_below (B := w.heap.size + 2) hgrow (by simp; omega) (fun g hg => (hrow g hg).1)
      have hbel' : Below w.heap.size w w3 := (bel_a (bel_tr hbel hc1)).trans (hg2.mono (by omega))
      have hs3 := hbel'.size
      have hs4 : v1.heap.size + 1 ≤ w3.heap.size := by have := hg2.size; simpa using this
      clear HB HG LN L R Pb hbel N hgrow hat hlt1
      rw [← hva']
      clear hva hva'
      go_wp2
      go_roundw
      case rel => first | exact ⟨i + 1, by omega, by go_num, LN', R', Pb', hbel', by omega⟩ | ((repeat apply Exists.intro); refine ⟨?_, rfl⟩; exact ⟨i + 1, by omega, by go_num, LN', R', Pb', hbel', by omega⟩)
      case measure => simp [intOf]; omega
    · have hkI : ¬ (i : Int) < (m : Int) := by omega
      obtain rfl : i = m := by omega
      go_wp2_with fail
      have hq := L.lq
      have hS1 : 1 ≤ S := by have := hP.s1; omega
      have hzz : ∀ j, j < i + 1 → 1 ≤ (fun _ : Nat => S) j ∧ T + (fun _ : Nat => S) j ≤ 6000000 := fun j _ => ⟨hS1, hST⟩
      have hTr := hT.below hbel
      have hi1 : i + 1 ≤ 1100000 := by omega
      have HH := sumQ o1 (i + 1) k1 (prt P.k P.V X) (fun _ => S) T wr hq hzz hT1 HS.out hi1 hTr
      clear hq hzz hTr
      refine HH.mono ?_
      clear HH
      rintro e w2 ⟨f, c, n1, k2, d, m2, l2, rfl, G, hx2⟩
      have hs2 := Below.size hx2
      replace R := R.below hx2
      replace hbel := bel_tr hbel hx2
      clear hx2 L Pb
      obtain ⟨r0, r1, r2, r3, r4, r5⟩ := id R
      obtain ⟨VV, O⟩ := R.set (.bool f) (.slice c n1 k2) (.slice d m2 l2)
      have GF := G.off O (by omega)
      have hw := hbel.trans (O.below (by omega))
      clear R O G hbel
      go_wp2
      refine bodyPost_ret (v := .agg #[.bool f, .slice c n1 k2, .slice d m2 l2]) (by simp [results, Tryz.results24, go_sem, VV.c0, VV.c1, VV.c2]) rfl ?_
      replace GF := GF.mono (B' := w.heap.size) (by omega)
      exact ⟨_, _, _, _, _, _, _, rfl, GF, hw⟩
end Go.Proofs.YtimdohckhfmhiaaGreatDoor

import Derived.Test.YtkbbdfflodiddabDoorSumI
import Derived.Test.YtkbbdfflodiddabDoorR2All
import Derived.Test.YtkbbdfflodiddabDoorWhEAll
namespace Go.Proofs.YtkbbdfflodiddabDoor
open Go.RowKit

theorem bY1 (w : World) : Below w.heap.size w w.drew := belN (Below.refl _ w) 1
theorem bY0 (w : World) (o : Obj) : Below w.heap.size w (w.alloc o) := (Below.refl _ w).alloc (Nat.le_refl _) o
theorem Got.offY {w w' : World} {B R : Nat} {v : Value} {x : Int} {S : Nat} (h : Got w B v x S) (ho : Off R w w') (hR : v.ownBlock ≠ some R) : Got w' B v x S := by
  obtain ⟨xs, h1, h2⟩ := h
  refine ⟨xs, ?_, h2⟩
  refine ⟨h1.1, ?_⟩
  rcases h1.2 with hn | ⟨g, cap, cur, e1, e2, hgb, rest⟩
  · exact .inl hn
  · refine .inr ⟨g, cap, cur, e1, e2, (ho.block g (fun e => hR ?_)).trans hgb, rest⟩
    subst e; rw [e1]; rfl
theorem TI.upY {w : World} {b : Bool} {a : Option Addr} {n c : Nat} {x : Int} {S R : Nat} (h : TI w b a n c x S) (hR : S ≤ R) : TI w b a n c x R := by
  obtain ⟨m, ⟨xs, h1, h2, h3, h4, h5, h6⟩, h7⟩ := h
  exact ⟨m, ⟨xs, h1, h2, h3, h4, h5, by omega⟩, h7⟩
theorem GI.gotY {w : World} {B : Nat} {f : Bool} {c : Option Addr} {n k : Nat} {x : Int} {S : Nat} (h : GI w B (.agg #[.bool f, .slice c n k]) x S) : f = decide (x < 0) ∧ Got w B (.slice c n k) (x.natAbs : Int) S := by
  obtain ⟨a', n2, c2, h1, h2⟩ := h
  simp only [Value.agg.injEq, Array.mk.injEq, List.cons.injEq, and_true] at h1
  obtain ⟨h0, h1⟩ := h1
  simp only [Value.slice.injEq] at h1
  obtain ⟨rfl, rfl, rfl⟩ := h1
  simp only [Value.bool.injEq] at h0
  exact ⟨h0, h2⟩
/-- A whole number in the one form, no limb of which lies in block R. -/
def GY (w : World) (B R : Nat) (f : Bool) (c : Option Addr) (n k : Nat) (x : Int) (S : Nat) : Prop := GI w B (.agg #[.bool f, .slice c n k]) x S ∧ (Value.slice c n k).ownBlock ≠ some R
theorem GY.off {w w' : World} {B R : Nat} {f : Bool} {c : Option Addr} {n k : Nat} {x : Int} {S : Nat} (h : GY w B R f c n k x S) (ho : Off R w w') : GY w' B R f c n k x S := by
  obtain ⟨h1, h2⟩ := h.1.gotY
  exact ⟨⟨c, n, k, by rw [h1], h2.offY ho h.2⟩, h.2⟩
theorem GY.below {w w' : World} {B R : Nat} {f : Bool} {c : Option Addr} {n k : Nat} {x : Int} {S : Nat} (h : GY w B R f c n k x S) (hb : Below w.heap.size w w') : GY w' B R f c n k x S := ⟨h.1.below hb, h.2⟩
theorem GI.gy {w : World} {B R : Nat} {f : Bool} {c : Option Addr} {n k : Nat} {x : Int} {S : Nat} (h : GI w B (.agg #[.bool f, .slice c n k]) x S) (hR : R < B ∨ w.heap.size ≤ R) : GY w B R f c n k x S :=
  ⟨h, fun e => by have := h.gotY.2.lt R e; omega⟩
/-- A list of whole numbers, to be read. -/
def LI (w : World) (a : Option Addr) (n : Nat) (P : Nat → Bool) (A : Nat → Option Addr) (N C : Nat → Nat) : Prop :=
  n = 0 ∨ ∃ b o, a = some ⟨b, o, none⟩ ∧ ∀ i, i < n → w.cell? ⟨b, o + i * 2, none⟩ = some (.bool (P i)) ∧ w.cell? ⟨b, o + i * 2 + 1, none⟩ = some (.slice (A i) (N i) (C i))
theorem LI.below {w w' : World} {a : Option Addr} {n : Nat} {P : Nat → Bool} {A : Nat → Option Addr} {N C : Nat → Nat} (h : LI w a n P A N C) (hb : Below w.heap.size w w') : LI w' a n P A N C := by
  rcases h with h | ⟨b, o, rfl, h⟩
  · exact .inl h
  · exact .inr ⟨b, o, rfl, fun i hi => ⟨kept_c hb (h i hi).1, kept_c hb (h i hi).2⟩⟩
set_option maxRecDepth 100000 in
set_option maxHeartbeats 4000000 in
/-- the document's Sum -/
theorem rsumD (a : Option Addr) (n cap : Nat) (P : Nat → Bool) (A : Nat → Option Addr) (N C : Nat → Nat) (X : Nat → Int) (S : Nat) (w : World) (hl : LI w a n P A N C) (hx : ∀ i, i < n → TI w (P i) (A i) (N i) (C i) (X i) S) (hn : n ≤ 1100000) (hS : S ≤ 3000000) :
    Calls Tryd.prog 10 #[.slice a n cap] w fun e w' => ∃ f c n1 k, e = .returned (.agg #[.bool f, .slice c n1 k]) ∧ GI w' w.heap.size (.agg #[.bool f, .slice c n1 k]) (isum X n) (S + 1) ∧ Below w.heap.size w w' := by
  obtain ⟨R0, V0, hb0, hsz⟩ := box2 w (.bool false) (.slice none 0 0) (.bool false) (.slice none 0 0) 30
  have HS : Hid (∀ k, k ≤ n → ((isum X k).natAbs : Int) < pw (S + 1)) := fun k hk => isum_pw (by omega) fun i hi => (hx i (by omega)).lt
  have G0 : GY ((w.alloc (.cells #[.bool false, .slice none 0 0] 30)).alloc (.cells #[.bool false, .slice none 0 0] 30)) (w.heap.size + 2) (w.heap.size + 1) false none 0 0 (isum X 0) (S + 1) := ⟨(GI.nil _ _).le (Nat.zero_le _), by simp [Value.ownBlock]⟩
  go_enter Tryd.func10, Tryd.ntmps10
  go_wp2
  generalize (w.alloc (.cells #[.bool false, .slice none 0 0] 30)).alloc (.cells #[.bool false, .slice none 0 0] 30) = W0 at *
  go_loopw [4] (fun s wr => ∃ (k : Nat) (f : Bool) (c : Option Addr) (n1 k1 : Nat), k ≤ n ∧ s = .int .i64 k ∧ Var2 wr (w.heap.size + 1) (.bool f) (.slice c n1 k1) ∧ GY wr (w.heap.size + 2) (w.heap.size + 1) f c n1 k1 (isum X k) (S + 1) ∧ Var2 wr w.heap.size (.bool false) (.slice none 0 0) ∧ Below w.heap.size w wr ∧ w.heap.size + 2 ≤ wr.heap.size) (fun t _ => n - (intOf t).toNat)
  case atStart => exact ⟨0, _, _, _, _, Nat.zero_le _, rfl, V0, G0, R0, hb0, by omega⟩
  case round =>
    obtain ⟨k, f, c, n1, k1, hk, rfl, V, G, R, hbel, hsw⟩ := hrel
    clear V0 G0 R0 hb0
    by_cases hlt : k < n
    · have hkI : (k : Int) < (n : Int) := by omega
      rcases hl with h0 | ⟨b, o, rfl, hl⟩
      · omega
      obtain ⟨c0, c1⟩ := hl k hlt
      replace c0 := kept_c hbel c0
      replace c1 := kept_c hbel c1
      have hA := (hx k hlt).below hbel
      have hkI2 : (k : Int) * 2 = ((k * 2 : Nat) : Int) := by omega
      have hb1 : b ≠ w.heap.size + 1 := by
        intro e
        have := World.block_lt_of_cell? _ _ (hl k hlt).1
        simp at this
        omega
      have HS1 : Hid (((isum X k + X k).natAbs : Int) < pw (S + 1)) := HS.out (k + 1) hlt
      clear hl
      obtain ⟨v0, v1, v2, v3⟩ := id V
      go_wp2_with fail
      refine wp_region_noPanic (wp_region_guard (Till 6 6 (fun w' => w'.cell? ⟨w.heap.size + 1, 0, none⟩ = some (.bool f) ∧ w'.cell? ⟨w.heap.size + 1, 1, none⟩ = some (.slice c n1 k1) ∧ w'.cell? ⟨b, o + k * 2, none⟩ = some (.bool (P k)) ∧ w'.cell? ⟨b, o + k * 2 + 1, none⟩ = some (.slice (A k) (N k) (C k))) (fun _ => True)) (by kernel_rfl) ?_)
      refine wpAnyG.take 0 (v := .agg #[.bool f, .slice c n1 k1]) (by decide) (by kernel_rfl) (fun _ _ _ h => h) 6 _ (by rfl) (till_ind (by decide) (by decide)) (fun L w' h1 h2 => h2.1 h1) (by kernel_rfl) (by kernel_rfl) (by kernel_rfl) (by rfl) ?y0 ⟨fun _ => ⟨v0, v1, c0, c1⟩, fun _ => trivial⟩ (by rfl) ?_
      case y0 =>
        rintro w' ⟨s0, s1, s2, s3⟩
        simp only [List.getElem_toArray, List.getElem_cons_zero]
        go_simp
      simp only [List.getElem_toArray, List.getElem_cons_zero, Act.put, List.setIfInBounds_toArray, List.set_cons_zero, List.set_cons_succ]
      refine wpAnyG.take 1 (v := .slice (some ⟨b, o, none⟩) n cap) (by decide) (by kernel_rfl) (fun _ _ _ h => h) 6 _ (by rfl) (till_ind (by decide) (by decide)) (fun L w' h1 h2 => h2.1 h1) (by kernel_rfl) (by kernel_rfl) (by kernel_rfl) (by rfl) ?y1 ⟨fun _ => ⟨v0, v1, c0, c1⟩, fun _ => trivial⟩ (by rfl) ?_
      case y1 =>
        rintro w' ⟨s0, s1, s2, s3⟩
        simp only [List.getElem_toArray, List.getElem_cons_zero, List.getElem_cons_succ]
        go_simp
      simp only [List.getElem_toArray, List.getElem_cons_zero, List.getElem_cons_succ, Act.put, List.setIfInBounds_toArray, List.set_cons_zero, List.set_cons_succ]
      refine wpAnyG.take 2 (v := .int .i64 k) (by decide) (by kernel_rfl) (fun _ _ _ h => h) 6 _ (by rfl) (till_ind (by decide) (by decide)) (fun L w' h1 h2 => h2.1 h1) (by kernel_rfl) (by kernel_rfl) (by kernel_rfl) (by rfl) ?y2 ⟨fun _ => ⟨v0, v1, c0, c1⟩, fun _ => trivial⟩ (by rfl) ?_
      case y2 =>
        rintro w' ⟨s0, s1, s2, s3⟩
        simp only [List.getElem_toArray, List.getElem_cons_zero, List.getElem_cons_succ]
        go_simp
      simp only [List.getElem_toArray, List.getElem_cons_zero, List.getElem_cons_succ, Act.put, List.setIfInBounds_toArray, List.set_cons_zero, List.set_cons_succ]
      refine wpAnyG.take 3 (v := .pointer (some ⟨b, o + k * 2, none⟩)) (by decide) (by kernel_rfl) (fun _ _ _ h => h) 6 _ (by rfl) (till_ind (by decide) (by decide)) (fun L w' h1 h2 => h2.1 h1) (by kernel_rfl) (by kernel_rfl) (by kernel_rfl) (by rfl) ?y3 ⟨fun _ => ⟨v0, v1, c0, c1⟩, fun _ => trivial⟩ (by rfl) ?_
      case y3 =>
        rintro w' ⟨s0, s1, s2, s3⟩
        simp only [List.getElem_toArray, List.getElem_cons_zero, List.getElem_cons_succ]
        go_simp
      simp only [List.getElem_toArray, List.getElem_cons_zero, List.getElem_cons_succ, Act.put, List.setIfInBounds_toArray, List.set_cons_zero, List.set_cons_succ]
      refine wpAnyG.take 4 (v := .agg #[.bool (P k), .slice (A k) (N k) (C k)]) (by decide) (by kernel_rfl) (fun _ _ _ h => h) 6 _ (by rfl) (till_ind (by decide) (by decide)) (fun L w' h1 h2 => h2.1 h1) (by kernel_rfl) (by kernel_rfl) (by kernel_rfl) (by rfl) ?y4 ⟨fun _ => ⟨v0, v1, c0, c1⟩, fun _ => trivial⟩ (by rfl) ?_
      case y4 =>
        rintro w' ⟨s0, s1, s2, s3⟩
        simp only [List.getElem_toArray, List.getElem_cons_zero, List.getElem_cons_succ]
        go_simp
      simp only [List.getElem_toArray, List.getElem_cons_zero, List.getElem_cons_succ, Act.put, List.setIfInBounds_toArray, List.set_cons_zero, List.set_cons_succ]
      refine wpAnyG.one 5 (by kernel_rfl) (by decide) (by rfl) (fun K hK => ?_)
      simp only [List.getElem_toArray, List.getElem_cons_zero, List.getElem_cons_succ]
      go_simp
      refine (raddT _ (G.1.ti.below (bY1 wr)) ((hA.upY (Nat.le_succ S)).below (bY1 wr)) (by omega)).mono ?_
      rintro e w2 ⟨f2, c2, n2, k2, rfl, GG, h1⟩
      have h1' : Below wr.heap.size wr w2 := bel_tr (bY1 wr) h1
      have hs3 := Below.size h1'
      have hsd : wr.drew.heap.size = wr.heap.size := rfl
      have GN := ((GG.shrink HS1.out).gy (R := w.heap.size + 1) (.inl (by omega)))
      replace GN : GY w2 (w.heap.size + 2) (w.heap.size + 1) f2 c2 n2 k2 (isum X k + X k) (S + 1) := ⟨GN.1.mono (by omega), GN.2⟩
      replace V := V.below h1'
      replace R := R.below h1'
      replace c0 := kept_c h1' c0
      replace c1 := kept_c h1' c1
      replace hbel := bel_tr hbel h1'
      clear h1 h1' GG G hA HS1 v0 v1 v2 v3
      obtain ⟨v0, v1, v2, v3⟩ := id V
      dsimp only
      refine hK _ _ ⟨fun _ => ⟨v0, v1, c0, c1⟩, fun _ => trivial⟩ ?_
      clear hK K
      refine wpAnyG.one 6 (by kernel_rfl) (by decide) (by rfl) (fun K hK => ?_)
      simp only [List.getElem_toArray, List.getElem_cons_zero, List.getElem_cons_succ]
      go_simp
      obtain ⟨V', O⟩ := V.set (.bool f2) (.slice c2 n2 k2)
      have R' := R.off O (by omega)
      have hbel' : Below w.heap.size w _ := hbel.trans (O.below (by omega))
      have GN' := GN.off O
      have hs4 := O.size
      refine hK _ _ ⟨fun h => absurd h (by decide), fun _ => trivial⟩ ?_
      clear hK K V R hbel O GN v0 v1 v2 v3 c0 c1
      refine wpAnyG.done (by kernel_rfl) (NoPanic.normal ?_)
      go_wp2
      go_roundw
      case rel => first | exact ⟨k + 1, _, _, _, _, by omega, by go_num, V', GN', R', hbel', by omega⟩ | ((repeat apply Exists.intro); refine ⟨?_, rfl⟩; exact ⟨k + 1, _, _, _, _, by omega, by go_num, V', GN', R', hbel', by omega⟩)
      case measure => simp [intOf]; omega
    · have hkI : ¬ (k : Int) < (n : Int) := by omega
      obtain rfl : k = n := by omega
      clear hl hx HS
      obtain ⟨v0, v1, v2, v3⟩ := id V
      obtain ⟨r0, r1, r2, r3⟩ := id R
      obtain ⟨VV, O⟩ := R.set (.bool f) (.slice c n1 k1)
      have GF := (G.1.off O (by omega)).mono (B' := w.heap.size) (by omega)
      have hw := hbel.trans (O.below (by omega))
      clear R O G hbel V
      go_wp2
      refine bodyPost_ret (v := .agg #[.bool f, .slice c n1 k1]) (by simp [results, Tryd.results10, go_sem, VV.c0, VV.c1]) rfl ?_
      first | exact ⟨_, _, _, _, rfl, GF, hw⟩ | (cases f <;> first | exact .inl ⟨_, _, _, rfl, GF, hw⟩ | exact .inr ⟨_, _, _, rfl, GF, hw⟩)
end Go.Proofs.YtkbbdfflodiddabDoor

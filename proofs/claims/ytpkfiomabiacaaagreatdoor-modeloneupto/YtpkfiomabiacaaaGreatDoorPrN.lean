import Derived.Test.YtpkfiomabiacaaaGreatDoorPrM
namespace Go.Proofs.YtpkfiomabiacaaaGreatDoor
open Go.RowKit Go.Maps

theorem ratI : (Tryz.prog.info? 27).map (·.size) = some 3 := by kernel_rfl
set_option maxRecDepth 100000 in
set_option maxHeartbeats 8000000 in
/-- constant(items): all of them have names. -/
theorem constantA {w : World} {ia : Option Addr} {n ic : Nat} {I : Nat → PI} {Z : Nat → Nat} (hI : LI w ia n I Z) (hn : n ≤ 1048576) (hne : ∀ i, i < n → (I i).nm.data.toList ≠ []) (hT : TB w) :
    Calls Tryz.prog 63 #[.slice ia n ic] w fun e w' => ∃ f c n k c' n' k', e = .returned (.agg #[.bool f, .slice c n k, .slice c' n' k']) ∧ GR w' w.heap.size f c n k c' n' k' 0 1 ∧ Below w.heap.size w w' := by
  have HN : Hid (∀ i, i < n → (I i).nm.data.toList ≠ []) := hne
  clear hne
  have R0 := Rw.new 27 w #[.bool false, .slice none 0 0, .slice none 0 0]
  have hz := bel_d0 w (.cells #[.bool false, .slice none 0 0, .slice none 0 0] 27)
  have hs : (w.alloc (.cells #[.bool false, .slice none 0 0, .slice none 0 0] 27)).heap.size = w.heap.size + 1 := by simp
  go_enter Tryz.func63, Tryz.ntmps63
  go_wp2
  generalize w.alloc (.cells #[.bool false, .slice none 0 0, .slice none 0 0] 27) = W at *
  go_loopw [3, 8] (fun s3 s8 wr => ∃ (j : Nat), j ≤ n ∧ s8 = .int .i64 j ∧ s3 = .slice none 0 0 ∧ Below W.heap.size W wr) (fun _ s8 _ => n - (intOf s8).toNat)
  case atStart => exact ⟨0, Nat.zero_le _, rfl, rfl, Below.refl _ _⟩
  case round =>
    obtain ⟨j, hj, rfl, rfl, hB⟩ := hrel
    by_cases hlt : j < n
    · have hkI : (j : Int) < (n : Int) := by omega
      have hkI2 : (j : Int) * 6 = ((j * 6 : Nat) : Int) := by omega
      have hnj := HN.out j hlt
      rcases hI with h0 | ⟨tb, to, eia, hel⟩
      · omega
      have hT := (hel j hlt).below (bel_tr hz hB)
      obtain ⟨pC, aC, nC, cC, dC, mC, lC, x0, x1, x2, hC⟩ := hT.coef
      obtain ⟨nm, enm⟩ : ∃ x, x = (I j).nm := ⟨_, rfl⟩
      obtain ⟨ln, eln⟩ : ∃ x, x = (I j).ln := ⟨_, rfl⟩
      obtain ⟨cl, ecl⟩ : ∃ x, x = (I j).cl := ⟨_, rfl⟩
      have x3 := hT.nm
      have x4 := hT.ln
      have x5 := hT.cl
      rw [← enm] at x3 hnj
      rw [← eln] at x4
      rw [← ecl] at x5
      have he2 : ¬ nm.toList = [] := by rw [ByteArray.toList_eq]; exact hnj
      have he3 : nm.toList.isEmpty = false := by simpa using he2
      clear hel hT enm eln ecl
      rw [eia]
      have hB4 := bel_tr hB (bel_d0 wr (.cells #[.bool pC, .slice aC nC cC, .slice dC mC lC, .string nm, .int .i64 ln, .int .i64 cl] 64))
      clear hB
      go_wp2
      go_roundw
      case rel => first | exact ⟨j + 1, by omega, by go_num, hB4⟩ | exact ⟨j + 1, by omega, by go_num, rfl, hB4⟩
      case measure => simp [intOf]; omega
    · have hkI : ¬ (j : Int) < (n : Int) := by omega
      obtain rfl : j = n := by omega
      have R1 := R0.below hB
      have HH := sumQ none 0 0 (fun _ => 0) (fun _ => 1) 1 wr (.inl rfl) (fun i hi => by omega) (by omega) (fun k hk => by
        obtain rfl : k = 0 := by omega
        exact sz_zero (by omega)) (by omega) ((hT.below hz).below hB)
      go_wp2_with fail
      refine HH.mono ?_
      rintro e w2 ⟨f, c, n1, k, c', n', k', rfl, G, hb⟩
      have R2 := R1.below hb
      go_wp2_with (refine R2.put #[.bool f, .slice c n1 k, .slice c' n' k'] rfl _ _ rfl rfl rfl ratI rfl (by simp [Value.oneCell']) ?_)
      intro w3 R3 O3
      go_wp2
      have hs1 := hB.size
      have hs2 := hb.size
      have G2 := G.keep (R2.noW (by decide)) O3.grown
      exact bodyPost_ret (R3.ret1 Tryz.results63 _ rfl Tryz.underlying27 ratI) rfl ⟨f, c, n1, k, c', n', k', rfl, G2.mono (by omega), (bel_tr hz (bel_tr hB hb)).trans (O3.below (Nat.le_refl _))⟩
theorem Rw.set4 {t : TypeId} {w : World} {R : Nat} {a0 a1 a2 a3 : Value} (h : Rw t w R #[a0, a1, a2, a3]) (b0 b1 b2 b3 : Value) :
    Rw t ((((w.setCell ⟨R, 0, none⟩ b0).setCell ⟨R, 1, none⟩ b1).setCell ⟨R, 2, none⟩ b2).setCell ⟨R, 3, none⟩ b3) R #[b0, b1, b2, b3] ∧
    Off R w ((((w.setCell ⟨R, 0, none⟩ b0).setCell ⟨R, 1, none⟩ b1).setCell ⟨R, 2, none⟩ b2).setCell ⟨R, 3, none⟩ b3) := by
  refine ⟨?_, (((Off.refl _ _).set 0 b0).set 1 b1).set 2 b2 |>.set 3 b3⟩
  have := ((((h.set 0 b0).1.set 1 b1).1.set 2 b2).1.set 3 b3).1
  simpa using this
set_option maxRecDepth 100000 in
set_option maxHeartbeats 8000000 in
/-- less(b, constant) -/
theorem lessBQ {h p q : Bool} {a b : Option Addr} {na nb ca cb : Nat} {d e0 : Option Addr} {nd ne cd ce : Nat} {r s : Rat} {S R : Nat} (w : World) (hr : TR w p a na ca d nd cd r S) (hs : TR w q b nb cb e0 ne ce s R) (hSR : S + R ≤ 6000000) (hS1 : 1 ≤ S) (hR1 : 1 ≤ R) (hT : TB w) :
    Calls Tryz.prog 98 #[.agg #[.bool h, .bool p, .slice a na ca, .slice d nd cd], .agg #[.bool q, .slice b nb cb, .slice e0 ne ce]] w fun e w' => ∃ f c n k c' n' k', e = .returned (.agg #[.bool h, .bool f, .slice c n k, .slice c' n' k']) ∧ GR w' w.heap.size f c n k c' n' k' (r - s) (S + R + 1) ∧ Below w.heap.size w w' := by
  obtain ⟨P0, P1, P2, hb, hsz⟩ := boxc3 w #[.bool h, .bool p, .slice a na ca, .slice d nd cd] 53 #[.bool q, .slice b nb cb, .slice e0 ne ce] 27 #[.bool false, .bool false, .slice none 0 0, .slice none 0 0] 53
  have R0 := Rw.new 53 ((w.alloc (.cells #[.bool h, .bool p, .slice a na ca, .slice d nd cd] 53)).alloc (.cells #[.bool q, .slice b nb cb, .slice e0 ne ce] 27)) #[.bool false, .bool false, .slice none 0 0, .slice none 0 0]
  rw [show ((w.alloc (.cells #[.bool h, .bool p, .slice a na ca, .slice d nd cd] 53)).alloc (.cells #[.bool q, .slice b nb cb, .slice e0 ne ce] 27)).heap.size = w.heap.size + 2 by simp] at R0
  go_enter Tryz.func98, Tryz.ntmps98
  go_wp2_with fail
  generalize ((w.alloc (.cells #[.bool h, .bool p, .slice a na ca, .slice d nd cd] 53)).alloc (.cells #[.bool q, .slice b nb cb, .slice e0 ne ce] 27)).alloc (.cells #[.bool false, .bool false, .slice none 0 0, .slice none 0 0] 53) = W at *
  have hr1 := hr.below hb
  have hs1 := hs.below hb
  have hT1 := hT.below hb
  have HS : Hid (W.heap.size = w.heap.size + 3) := hsz
  clear hsz
  have HB : ∀ w', Below W.heap.size W w' → (w'.cell? ⟨w.heap.size, 0, none⟩ = some (.bool h) ∧ w'.cell? ⟨w.heap.size, 1, none⟩ = some (.bool p) ∧ w'.cell? ⟨w.heap.size, 2, none⟩ = some (.slice a na ca) ∧ w'.cell? ⟨w.heap.size, 3, none⟩ = some (.slice d nd cd) ∧ w'.cell? ⟨w.heap.size + 1, 0, none⟩ = some (.bool q) ∧ w'.cell? ⟨w.heap.size + 1, 1, none⟩ = some (.slice b nb cb) ∧ w'.cell? ⟨w.heap.size + 1, 2, none⟩ = some (.slice e0 ne ce)) := fun w' hh => ⟨kept_c hh (P0 0 _ rfl), kept_c hh (P0 1 _ rfl), kept_c hh (P0 2 _ rfl), kept_c hh (P0 3 _ rfl), kept_c hh (P1 0 _ rfl), kept_c hh (P1 1 _ rfl), kept_c hh (P1 2 _ rfl)⟩
  have HO : ∀ w1 w', Below W.heap.size W w1 → Off (w.heap.size + 2) w1 w' → (w'.cell? ⟨w.heap.size, 0, none⟩ = some (.bool h) ∧ w'.cell? ⟨w.heap.size, 1, none⟩ = some (.bool p) ∧ w'.cell? ⟨w.heap.size, 2, none⟩ = some (.slice a na ca) ∧ w'.cell? ⟨w.heap.size, 3, none⟩ = some (.slice d nd cd) ∧ w'.cell? ⟨w.heap.size + 1, 0, none⟩ = some (.bool q) ∧ w'.cell? ⟨w.heap.size + 1, 1, none⟩ = some (.slice b nb cb) ∧ w'.cell? ⟨w.heap.size + 1, 2, none⟩ = some (.slice e0 ne ce)) := fun w1 w' hh O => by
    obtain ⟨y0, y1, y2, y3, y4, y5, y6⟩ := HB w1 hh
    refine ⟨(O.cell ?_).trans y0, (O.cell ?_).trans y1, (O.cell ?_).trans y2, (O.cell ?_).trans y3, (O.cell ?_).trans y4, (O.cell ?_).trans y5, (O.cell ?_).trans y6⟩ <;> (show _ ≠ _; simp)
  obtain ⟨y0, y1, y2, y3, y4, y5, y6⟩ := HB W (Below.refl _ _)
  go_region_held3 (fun w' => w'.cell? ⟨w.heap.size, 0, none⟩ = some (.bool h) ∧ w'.cell? ⟨w.heap.size, 1, none⟩ = some (.bool p) ∧ w'.cell? ⟨w.heap.size, 2, none⟩ = some (.slice a na ca) ∧ w'.cell? ⟨w.heap.size, 3, none⟩ = some (.slice d nd cd) ∧ w'.cell? ⟨w.heap.size + 1, 0, none⟩ = some (.bool q) ∧ w'.cell? ⟨w.heap.size + 1, 1, none⟩ = some (.slice b nb cb) ∧ w'.cell? ⟨w.heap.size + 1, 2, none⟩ = some (.slice e0 ne ce))
    (first | (with_reducible refine HB _ ?_; first | with_reducible exact hc1 | with_reducible exact Below.refl _ _ | with_reducible exact bel_d1 _) | (exact HO _ _ hc1 (R1.set4 _ _ _ _).2))
    ((first
      | (go_at_call 128; go_fit (subQ _ (hr1.below (bel_d1 _)) (hs1.below (bel_d1 _)) hSR hS1 hR1 (hT1.below (bel_d1 _))); rintro e v1 ⟨f, c, n, k, c', n', k', rfl, G, hb1⟩; have hc1 : Below W.heap.size W v1 := bel_tr (bel_d1 _) hb1; have R1 := R0.below hc1; have z0 := (R1.cell 0).trans (show _ = some (.bool false) from rfl); have z1 := (R1.cell 1).trans (show _ = some (.bool false) from rfl); have z2 := (R1.cell 2).trans (show _ = some (.slice none 0 0) from rfl); have z3 := (R1.cell 3).trans (show _ = some (.slice none 0 0) from rfl); have u0 := R1.frozen 0; have u1 := R1.frozen 1; have u2 := R1.frozen 2; have u3 := R1.frozen 3)))
  obtain ⟨R2, O2⟩ := R1.set4 (.bool h) (.bool f) (.slice c n k) (.slice c' n' k')
  have hs2 := HS.out
  have hs3 := hc1.size
  have G2 := G.keep (R1.noW (by decide)) O2.grown
  go_wp2
  exact bodyPost_ret (R2.ret1 Tryz.results98 _ rfl Tryz.underlying53 bndI) rfl ⟨f, c, n, k, c', n', k', rfl, G2.mono (show w.heap.size ≤ W.heap.size by omega), (bel_tr hb hc1).trans (O2.below (by omega))⟩
end Go.Proofs.YtpkfiomabiacaaaGreatDoor

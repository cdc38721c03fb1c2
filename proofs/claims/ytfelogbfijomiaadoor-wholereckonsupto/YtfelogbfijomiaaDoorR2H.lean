import Derived.Test.YtfelogbfijomiaaDoorR2A
namespace Go.Proofs.YtfelogbfijomiaaDoor
open Go.RowKit

set_option maxHeartbeats 1000000 in
theorem rcopied_any (a : Option Addr) (n cap : Nat) (xs : List Int) (w : World) (hn : n = xs.length) (hm : n ≤ 400000000000) (hr : Reads w a xs) :
    Calls Tryd.prog 86 #[.slice a n cap] w fun e w' => ∃ c cc, e = .returned (.slice c n cc) ∧ OwnV w' w.heap.size (.slice c n cc) xs ∧ Below w.heap.size w w' := by
  subst hn
  go_enter Tryd.func86, Tryd.ntmps86
  go_wp2
  go_loopw [3, 4] (fun v i wr => ∃ k : Nat, k ≤ xs.length ∧ i = .int .i64 k ∧ OwnV wr w.heap.size v (xs.take k) ∧ Below w.heap.size w wr) (fun _ i _ => xs.length - (intOf i).toNat)
  case atStart => exact ⟨0, Nat.zero_le _, rfl, OwnV.nil _ _, Below.refl _ _⟩
  case round =>
    obtain ⟨k, hk, rfl, hown, hbel⟩ := hrel
    by_cases hlt : k < xs.length
    · obtain ⟨b1, o1, rfl, hc1⟩ := hr.at (by omega)
      have h1 := hc1 k hlt
      have h2 : wr.cell? ⟨b1, o1 + k, none⟩ = some (.int .u64 (lm xs k)) := by
        have := World.block_lt_of_cell? _ _ h1
        rw [hbel.cell (p := ⟨b1, o1 + k, none⟩) (by simpa using this)]; exact h1
      have HT : Hid (xs.take k ++ [lm xs k] = xs.take (k + 1)) := by
        show _ = _
        rw [List.take_succ_eq_append_getElem hlt]
        simp [lm, hlt]
      have HK : Hid ((xs.take k).length = k) := by show _ = _; rw [List.length_take]; omega
      have hkl : (k : Int) < (xs.length : Int) := by omega
      clear hc1 h1 hr
      generalize xs.take k = F at *
      generalize lm xs k = X at *
      have hsz := hbel.size
      have hrow : ∀ q, u3.ownBlock = some q → w.heap.size ≤ q := fun q hq => (hown.lt q hq).1
      go_wp2_with (at_builtin; refine wpList_append1 23 Tryd.underlying23 _ rfl _ _ rfl w.heap.size u3 F k HK rfl (hown.alloc _) wr.heap.size _ X rfl (cell_new1 rfl) (by omega) (by simp; omega) (wr.heap.size + 1) (by simp) ?_)
      intro g cap1 w1 hown1 hgrow hat hlt1
      have hbel1 : Below w.heap.size w w1 := hbel.trans (((Below.refl _ _).alloc (by omega) _).trans (grown_below hgrow (by simp; omega) hrow))
      rw [HT.out] at hown1
      clear hgrow hat hown
      go_wp2
      go_roundw
      case rel => exact ⟨k + 1, by omega, by go_num, hown1, hbel1⟩
      case measure => simp [intOf]; omega
    · obtain rfl : k = xs.length := by omega
      rw [List.take_length] at hown
      obtain ⟨c, cc, rfl⟩ := hown.slice
      go_wp2
      go_ret
      exact ⟨_, _, rfl, hown, hbel⟩
set_option maxHeartbeats 1000000 in
/-- the document's Copied -/
theorem rcopiedI {a : Option Addr} {na ca : Nat} {m : Int} {S : Nat} (p : Bool) (w : World) (ha : Num w a na ca m S) (hS : S ≤ 20000000) :
    Calls Tryd.prog 66 #[.agg #[.bool p, .slice a na ca]] w fun e w' => ∃ c n d, e = .returned (.agg #[.bool p, .slice c n d]) ∧ Num w' c n d m S ∧ Below w.heap.size w w' := by
  obtain ⟨P0, R0, hb0, hsz⟩ := box2 w (.bool p) (.slice a na ca) (.bool false) (.slice none 0 0) 25
  replace ha := ha.below hb0
  go_enter Tryd.func66, Tryd.ntmps66
  go_wp2_with fail
  generalize (w.alloc (.cells #[.bool p, .slice a na ca] 25)).alloc (.cells #[.bool false, .slice none 0 0] 25) = W0 at *
  obtain ⟨p00, p01, p02, p03⟩ := id P0
  obtain ⟨xs, h1, h2, h3, h4, h5, h6⟩ := ha
  have Hn : Hid (na = xs.length) := h1
  clear h1
  go_region_held3 (fun w' => w'.cell? ⟨w.heap.size, 0, none⟩ = some (.bool p) ∧ w'.cell? ⟨w.heap.size, 1, none⟩ = some (.slice a na ca))
    (first | (go_keep; done) | (refine ⟨?_, ?_⟩ <;> first | exact kept_c hb1 (by go_keep)) | (refine ⟨?_, ?_⟩ <;> first | exact set2_far (by go_keep) (by simp <;> omega) | exact kept_c (by assumption) (by assumption)))
    ((first
      | (go_at_call 86; go_fit (rcopied_any a na ca xs _ Hn.out (by omega) (h3.below (belN (Below.refl _ _) _))); rintro e w1 ⟨c1, d1, rfl, G1, hb1⟩; have hc1 := bel_tr (belN (Below.refl _ W0) _) hb1; have R1 := R0.below hc1; obtain ⟨r0, r1, r2, r3⟩ := id R1)))
  have hs1 := hc1.size
  have hw2 := bel_tr hb0 hc1
  obtain ⟨V, O⟩ := R1.set (.bool p) (.slice c1 na d1)
  have G2 := (G1.mono (B' := w.heap.size + 2) (by have : W0.drew.heap.size = W0.heap.size := rfl; omega))
  have hq : ∀ R, R < w.heap.size + 2 → ∀ w', Off R w1 w' → OwnV w' (w.heap.size + 2) (.slice c1 na d1) xs := fun R hR w' ho => by
    have h1 := G2
    refine ⟨h1.1, ?_⟩
    rcases h1.2 with hn | ⟨g, cap, cur, e1, e2, hgb, rest⟩
    · exact .inl hn
    · exact .inr ⟨g, cap, cur, e1, e2, (ho.block g (by omega)).trans hgb, rest⟩
  have G3 := hq (w.heap.size + 1) (by omega) _ O
  obtain ⟨k1, k2, k3⟩ := G3.reads
  have hE : Num _ c1 na d1 m S := ⟨xs, k1, k2, k3, h4, h5, h6⟩
  have hB := hw2.trans (O.below (B := w.heap.size) (by omega))
  clear hb1 hc1 P0 R0 R1 p00 p01 p02 p03 G1 G2 G3 hq h2 h3 h4 h5 h6 k1 k2 k3 hw2
  go_wp2
  refine bodyPost_ret (v := .agg #[.bool p, .slice c1 na d1]) (by simp [results, Tryd.results66, go_sem, V.c0, V.c1]) rfl ⟨_, _, _, rfl, hE, hB⟩
end Go.Proofs.YtfelogbfijomiaaDoor

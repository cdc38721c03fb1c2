import Derived.Test.YtdfoiklcekhmpaaGreatDoorR5F
namespace Go.Proofs.YtdfoiklcekhmpaaGreatDoor
open Go.RowKit Go.Shelf

set_option maxRecDepth 100000 in
set_option maxHeartbeats 4000000 in
theorem dBEn5a {s : ByteArray} {p0 i : Nat} {neg : Bool} {N : Int} (w : World) (hs : s.size ≤ 1048576) (hat : sgJ s 0 = p0) (hneg : sgN s 0 = neg) (hi : runE s p0 = i) (hN : rdF s p0 (i - p0) = N) (ha0 : p0 ≤ s.size) (_hi0 : i ≤ s.size) (_hai0 : p0 ≤ i) (hai1 : ¬ p0 < i) (hil1 : ¬ i < s.size) {mm : Nat} (hmm : (i : Int) - (p0 : Int) = (mm : Int)) {e : Int} {dn ok : Bool} (he : exV s i = e) (hd : exD s i = dn) (ho : exOk s i = ok) (hm0 : mm = 0)  :
    Calls Tryz.prog 7 #[.string s] w fun e w' => e = .returned (.tuple #[.agg #[.bool false, .slice none 0 0, .slice none 0 0], .int .i64 5]) ∧ Below w.heap.size w w' := by
  have hai : ¬ (p0 : Int) < (i : Int) := by omega
  have hii : (0 : Int) ≤ (i : Int) := by omega
  have hil : ¬ (i : Int) < (s.size : Int) := by omega
  have R0 := var3_new w (.bool false) (.slice none 0 0) (.slice none 0 0) 28
  have hb0 := bel_d0 w (.cells #[.bool false, .slice none 0 0, .slice none 0 0] 28)
  have hsz : w.heap.size + 1 ≤ (w.alloc (.cells #[.bool false, .slice none 0 0, .slice none 0 0] 28)).heap.size := by simp
  go_enter Tryz.func7, Tryz.ntmps7
  go_wp2_with fail
  generalize w.alloc (.cells #[.bool false, .slice none 0 0, .slice none 0 0] 28) = W0 at *
  refine (signY (i := 0) _ rfl hat hneg (Nat.zero_le _) hs).mono ?_
  rintro e w1 ⟨rfl, hx⟩
  replace R0 := R0.below hx
  replace hb0 := bel_tr hb0 hx
  replace hsz := Nat.le_trans hsz (Below.size hx)
  clear hx
  go_wp2_with fail
  refine (runY _ rfl hi hN ha0 hs).mono ?_
  rintro e w2 ⟨cN, nN, kN, rfl, GN, hx⟩
  replace R0 := R0.below hx
  replace hb0 := bel_tr hb0 hx
  replace GN := GN.mono (B' := w.heap.size + 1) hsz
  replace hsz := Nat.le_trans hsz (Below.size hx)
  clear hx
  go_wp2_with fail
  refine (expY (i := i) _ (by omega) he hd ho (by omega) hs).mono ?_
  rintro e w3 ⟨rfl, hx⟩
  replace R0 := R0.below hx
  replace GN := GN.below hx
  replace hb0 := bel_tr hb0 hx
  replace hsz := Nat.le_trans hsz (Below.size hx)
  clear hx
  subst hm0
  have hmz : ((0 : Nat) : Int) = 0 := rfl
  clear GN
  obtain ⟨r0c0, r0c1, r0c2, r0c3, r0c4, r0c5⟩ := id R0
  obtain ⟨V, O⟩ := R0.set (.bool false) (.slice none 0 0) (.slice none 0 0)
  have hw := hb0.trans (O.below (B := w.heap.size) (by omega))
  clear R0 O hb0
  go_wp2
  refine bodyPost_ret (v := .tuple #[.agg #[.bool false, .slice none 0 0, .slice none 0 0], .int .i64 5]) (by simp [results, Tryz.results7, go_sem, V.c0, V.c1, V.c2]) rfl ⟨rfl, hw⟩
end Go.Proofs.YtdfoiklcekhmpaaGreatDoor

import Derived.Test.YtfelogbfijomiabGreatDoorWhF
import Derived.Test.YtfelogbfijomiabGreatDoorParse
namespace Go.Proofs.YtfelogbfijomiabGreatDoor
open Go.RowKit

set_option maxHeartbeats 1000000 in
theorem cut7 (w : World) :
    Calls Tryz.prog 116 #[.string ⟨#[45, 48, 48, 55]⟩] w fun e w' => e = .returned (.tuple #[.bool true, .string ⟨#[48, 48, 55]⟩]) ∧ Below w.heap.size w w' := by
  have hby := byt_get (s := ⟨#[45, 48, 48, 55]⟩) (k := 0) (by decide)
  rw [show byt ⟨#[45, 48, 48, 55]⟩ 0 = 45 by decide] at hby
  go_enter Tryz.func116, Tryz.ntmps116
  go_wp2
  go_region
  go_wp2
  go_ret2
  exact ⟨rfl, (Below.refl _ _).drew⟩
theorem digs7 : Digs ⟨#[48, 48, 55]⟩ 3 := by
  intro i hi
  rcases (by omega : i = 0 ∨ i = 1 ∨ i = 2) with rfl | rfl | rfl <;> decide
theorem rd7 : rdF ⟨#[48, 48, 55]⟩ 0 3 = 7 := by decide
set_option maxHeartbeats 1000000 in
theorem parse7 (w : World) :
    Calls Tryz.prog 89 #[.string ⟨#[45, 48, 48, 55]⟩] w fun e w' => ∃ v, e = .returned (.tuple #[v, .nilIface]) ∧ GI w' w.heap.size v (-7) 3 ∧ Below w.heap.size w w' := by
  obtain ⟨R0, hb0, hsz⟩ := box1 w (.bool false) (.slice none 0 0) 28
  go_enter Tryz.func89, Tryz.ntmps89
  go_wp2_with fail
  generalize w.alloc (.cells #[.bool false, .slice none 0 0] 28) = W0 at *
  refine (cut7 _).mono ?_
  rintro e w1 ⟨rfl, hb1⟩
  replace R0 := R0.below hb1
  replace hb0 := bel_tr hb0 hb1
  have hs1 := hb1.size
  clear hb1
  go_wp2_with fail
  refine (parse_yes _ _ (by decide) digs7 (by decide)).mono ?_
  rintro e w2 ⟨c1, n1, d1, rfl, G, hb2⟩
  replace R0 := R0.below hb2
  replace hb0 := bel_tr hb0 hb2
  have hs2 := hb2.size
  clear hb2
  go_wp2_with fail
  refine (signed_any _ _ _ _ _).mono ?_
  rintro e w3 ⟨rfl, hb3⟩
  replace R0 := R0.below hb3
  have hw2 := bel_tr hb0 hb3
  have GF : GI w3 w1.heap.size _ (-7) 3 := ((G.gi true).below hb3).val (by show ws true (rdF _ 0 3) = -7; rw [rd7]; rfl)
  obtain ⟨r0, r1, r2, r3⟩ := id R0
  obtain ⟨V, O⟩ := R0.set (.bool (decide (0 < n1))) (.slice c1 n1 d1)
  clear hb3 hb0 G
  go_wp2
  refine bodyPost_ret (v := .tuple #[.agg #[.bool (decide (0 < n1)), .slice c1 n1 d1], .nilIface]) (by simp [results, Tryz.results89, go_sem, V.c0, V.c1]) rfl ⟨_, rfl, ((GF.off O (by omega)).mono (by omega)), hw2.trans (O.below (by omega))⟩
theorem decs_small {v : Nat} (h : v ≠ 0) (h9 : v < 10) : decs v = [(v : Int)] := by
  rw [decs_pos h, show v / 10 = 0 by omega, decs_zero, show v % 10 = v by omega]
theorem txt_small {v : Nat} (h : v ≠ 0) (h9 : v < 10) : txt v = strOfNums [48 + (v : Int)] := by
  unfold txt
  rw [if_neg h, decs_small h h9]; rfl
theorem tm4 : txtI (-4) = ⟨#[45, 52]⟩ := by
  unfold txtI
  rw [if_pos (by decide), txt_small (by decide) (by decide)]; rfl
theorem tm7 : txtI (-7) = ⟨#[45, 55]⟩ := by
  unfold txtI
  rw [if_pos (by decide), txt_small (by decide) (by decide)]; rfl
theorem tp1 : txtI 1 = ⟨#[49]⟩ := by
  unfold txtI
  rw [if_neg (by decide), txt_small (by decide) (by decide)]; rfl
theorem tp2 : txtI 2 = ⟨#[50]⟩ := by
  unfold txtI
  rw [if_neg (by decide), txt_small (by decide) (by decide)]; rfl
theorem tm15 : txtI (-15) = ⟨#[45, 49, 53]⟩ := by
  unfold txtI txt
  rw [if_pos (by decide), if_neg (by decide), decs_pos (by decide), decs_small (by decide) (by decide)]; rfl
theorem GI.parts {w : World} {B : Nat} {b : Bool} {c : Option Addr} {n d : Nat} {x : Int} {S : Nat} (h : GI w B (.agg #[.bool b, .slice c n d]) x S) : b = decide (x < 0) ∧ Got w B (.slice c n d) (x.natAbs : Int) S := by
  obtain ⟨a', n', c', h1, h2⟩ := h
  simp only [Value.agg.injEq, Array.mk.injEq, List.cons.injEq, Value.bool.injEq, and_true] at h1
  obtain ⟨h0, h1⟩ := h1
  rw [← h1] at h2
  exact ⟨h0, h2⟩
/-- whole.Text of a number that is known. -/
theorem textK {x : Int} {b : Bool} {c : Option Addr} {n d B S : Nat} {s : ByteArray} (w : World) (h : GI w B (.agg #[.bool b, .slice c n d]) x S) (hS : S ≤ 10000000000) (hs : txtI x = s) :
    Calls Tryz.prog 58 #[.agg #[.bool b, .slice c n d]] w fun e w' => e = .returned (.string s) ∧ Below w.heap.size w w' := by
  obtain ⟨a', n', c', h1, h2⟩ := h
  simp only [Value.agg.injEq, Array.mk.injEq, List.cons.injEq, Value.bool.injEq, and_true] at h1
  obtain ⟨rfl, h1⟩ := h1
  rw [← h1] at h2
  have := textI (decide (x < 0)) w h2.num hS
  rw [ws_sign, hs] at this
  exact this
end Go.Proofs.YtfelogbfijomiabGreatDoor

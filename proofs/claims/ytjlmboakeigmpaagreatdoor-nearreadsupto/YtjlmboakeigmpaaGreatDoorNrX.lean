import Derived.Test.YtjlmboakeigmpaaGreatDoorNrTAll
import Derived.Test.YtjlmboakeigmpaaGreatDoorNrJ
import Derived.Test.YtjlmboakeigmpaaGreatDoorR5IAll
import Derived.Test.YtjlmboakeigmpaaGreatDoorLaid3
namespace Go.Proofs.YtjlmboakeigmpaaGreatDoor
open Go.RowKit

theorem eql3 {w : World} {g g' : Nat} {a b : Addr} {x y : List UInt8} (ha : Err3 w g a x) (hb : Err3 w g' b y) (hne : x ≠ y) :
    (binOp .eql 25 (.iface 178 (.pointer (some a))) (.iface 178 (.pointer (some b)))).run Tryz.prog w = .ok (.bool false) w := by
  obtain ⟨i, hi, hcmp⟩ := Option.map_eq_some_iff.1 Tryz.errComp3
  obtain ⟨j, hj, hsz⟩ := Option.map_eq_some_iff.1 Tryz.errSize3
  obtain ⟨_, ⟨s, hs, es⟩, ca, ta, ka⟩ := ha
  obtain ⟨_, ⟨z, hz, ez⟩, cb, tb, kb⟩ := hb
  have hab : a ≠ b := by
    rintro rfl
    have := hs.symm.trans hz
    simp only [Option.some.injEq, Value.string.injEq] at this
    exact hne (by rw [← es, ← ez, this])
  simp only [binOp]
  simp [Op.equal, Op.maxDepth, run_equalIn_iface_ptr_other w 9998 Tryz.underlying25 Tryz.underlying178 hi hcmp hj (by omega) hab ka kb]
theorem same3 (w : World) (a : Addr) : (binOp .eql 25 (.iface 178 (.pointer (some a))) (.iface 178 (.pointer (some a)))).run Tryz.prog w = .ok (.bool true) w := by
  obtain ⟨i, hi, hcmp⟩ := Option.map_eq_some_iff.1 Tryz.errComp3
  obtain ⟨j, hj, hsz⟩ := Option.map_eq_some_iff.1 Tryz.errSize3
  exact run_eql_iface_ptr_same (P := Tryz.prog) w a Tryz.underlying25 Tryz.underlying178 hi hcmp hj
/-- The three errors of literals. -/
def E3 (w : World) (a b c : Addr) (x y z : List UInt8) : Prop := Err3 w 0 a x ∧ Err3 w 1 b y ∧ Err3 w 2 c z ∧ y ≠ x ∧ z ≠ x ∧ z ≠ y
theorem E3.below {w w' : World} {a b c : Addr} {x y z : List UInt8} (h : E3 w a b c x y z) (hb : Below w.heap.size w w') : E3 w' a b c x y z := ⟨h.1.below hb, h.2.1.below hb, h.2.2.1.below hb, h.2.2.2⟩
theorem code0 (w : World) : Calls Tryz.prog 8 #[.nilIface] w fun e w' => e = .returned (.int .i64 0) ∧ Below w.heap.size w w' := by
  go_enter Tryz.func8, Tryz.ntmps8
  go_wp2
  go_ret
  exact ⟨rfl, Below.refl _ _⟩
theorem code3 (w : World) {a b c : Addr} {x y z : List UInt8} (E : E3 w a b c x y z) : Calls Tryz.prog 8 #[.iface 178 (.pointer (some a))] w fun e w' => e = .returned (.int .i64 3) ∧ Below w.heap.size w w' := by
  have n1 := same3 w a
  obtain ⟨⟨ca, -⟩, ⟨cb, -⟩, ⟨cc, -⟩, -⟩ := E
  go_enter Tryz.func8, Tryz.ntmps8
  go_wp2
  go_ret
  exact ⟨rfl, Below.refl _ _⟩
theorem code5 (w : World) {a b c : Addr} {x y z : List UInt8} (E : E3 w a b c x y z) : Calls Tryz.prog 8 #[.iface 178 (.pointer (some b))] w fun e w' => e = .returned (.int .i64 5) ∧ Below w.heap.size w w' := by
  have n1 := same3 w b
  have n2 := eql3 E.2.1 E.1 E.2.2.2.1
  obtain ⟨⟨ca, -⟩, ⟨cb, -⟩, ⟨cc, -⟩, -⟩ := E
  go_enter Tryz.func8, Tryz.ntmps8
  go_wp2
  go_ret
  exact ⟨rfl, Below.refl _ _⟩
theorem code8 (w : World) {a b c : Addr} {x y z : List UInt8} (E : E3 w a b c x y z) : Calls Tryz.prog 8 #[.iface 178 (.pointer (some c))] w fun e w' => e = .returned (.int .i64 8) ∧ Below w.heap.size w w' := by
  have n1 := same3 w c
  have n2 := eql3 E.2.2.1 E.1 E.2.2.2.2.1
  have n3 := eql3 E.2.2.1 E.2.1 E.2.2.2.2.2
  obtain ⟨⟨ca, -⟩, ⟨cb, -⟩, ⟨cc, -⟩, -⟩ := E
  go_enter Tryz.func8, Tryz.ntmps8
  go_wp2
  go_ret
  exact ⟨rfl, Below.refl _ _⟩
set_option maxRecDepth 100000 in
set_option maxHeartbeats 1000000 in
/-- near.Read of what is a literal -/
theorem readOk {F : Nat} {s : ByteArray} {r : Rat} {S : Nat} (z : Int) (w : World) (HP : Parses s r S w) (hS : S ≤ 5000000) (hP : Pz r z) (hF : fb (flz z) = F) :
    Calls Tryz.prog 5 #[.string s] w fun e w' => e = .returned (.tuple #[.float .f64 F, .nilIface]) ∧ Below w.heap.size w w' := by
  have HF : Hid (fb (flz z) = F) := hF
  clear hF
  go_enter Tryz.func5, Tryz.ntmps5
  go_wp2_with fail
  refine HP.mono ?_
  rintro e w1 ⟨f, c, n, k, c', n', k', rfl, G, hb0⟩
  clear HP
  have V := var3_new w1 (.bool f) (.slice c n k) (.slice c' n' k') 41
  have hx := bel_d0 w1 (.cells #[.bool f, .slice c n k, .slice c' n' k'] 41)
  replace G := G.below hx
  replace hb0 := bel_tr hb0 hx
  clear hx
  obtain ⟨c0, c1, c2, c3, c4, c5⟩ := id V
  go_wp2_with fail
  generalize w1.alloc (.cells #[.bool f, .slice c n k, .slice c' n' k'] 41) = w2 at *
  refine (floatQ (S := S + 1) z _ (G.le (by omega)).tr (by omega) (by omega) hP HF.out rfl).mono ?_
  rintro e w3 ⟨rfl, hx⟩
  replace hb0 := bel_tr hb0 hx
  clear hx c0 c1 c2 c3 c4 c5 V G hP HF
  generalize sdz z = sd
  go_wp2
  go_ret2
  exact ⟨rfl, hb0⟩
set_option maxRecDepth 100000 in
set_option maxHeartbeats 1000000 in
theorem readEr {s : ByteArray} {g : Nat} (w : World) {a : Addr} {x : List UInt8} (E : Err3 w g a x) (HP : Fails s g) :
    Calls Tryz.prog 5 #[.string s] w fun e w' => e = .returned (.tuple #[.float .f64 0, .iface 178 (.pointer (some a))]) ∧ Below w.heap.size w w' := by
  go_enter Tryz.func5, Tryz.ntmps5
  go_wp2_with fail
  refine (HP _ _ E.errs).mono ?_
  rintro e w1 ⟨rfl, hb0⟩
  clear HP
  have hx := bel_d0 w1 (.cells #[.bool false, .slice none 0 0, .slice none 0 0] 41)
  replace hb0 := bel_tr hb0 hx
  clear hx
  go_wp2
  go_ret2
  exact ⟨rfl, hb0⟩
set_option maxRecDepth 100000 in
set_option maxHeartbeats 1000000 in
/-- the document's Read -/
theorem readD {F : Int} {s : ByteArray} {r : Rat} {S : Nat} (z : Int) (w : World) (HP : DocOk s r S) (hS : S ≤ 5000000) (hP : Pz r z) (hF : ((fb (flz z) : Nat) : Int) = F) :
    Calls Tryz.prog 6 #[.string s] w fun e w' => e = .returned (.tuple #[.int .u64 F, .int .i64 0]) ∧ Below w.heap.size w w' := by
  have HF : Hid (((fb (flz z) : Nat) : Int) = F) := hF
  clear hF
  go_enter Tryz.func6, Tryz.ntmps6
  go_wp2_with fail
  refine (HP _).mono ?_
  rintro e w1 ⟨f, c, n, k, c', n', k', rfl, G, hb0⟩
  clear HP
  have V := var3_new w1 (.bool f) (.slice c n k) (.slice c' n' k') 41
  have hx := bel_d0 w1 (.cells #[.bool f, .slice c n k, .slice c' n' k'] 41)
  replace G := G.below hx
  replace hb0 := bel_tr hb0 hx
  clear hx
  obtain ⟨c0, c1, c2, c3, c4, c5⟩ := id V
  go_wp2_with fail
  generalize w1.alloc (.cells #[.bool f, .slice c n k, .slice c' n' k'] 41) = w2 at *
  refine (floatD (S := S + 1) z _ (G.le (by omega)).tr (by omega) (by omega) hP HF.out rfl).mono ?_
  rintro e w3 ⟨rfl, hx⟩
  replace hb0 := bel_tr hb0 hx
  clear hx c0 c1 c2 c3 c4 c5 V G hP HF
  generalize sdz z = sd
  go_wp2
  go_ret2
  exact ⟨rfl, hb0⟩
set_option maxRecDepth 100000 in
set_option maxHeartbeats 1000000 in
theorem readDE {s : ByteArray} {k : Int} (w : World) (HP : DocErr s k) (hk : k = 3 ∨ k = 5 ∨ k = 8) :
    Calls Tryz.prog 6 #[.string s] w fun e w' => e = .returned (.tuple #[.int .u64 0, .int .i64 k]) ∧ Below w.heap.size w w' := by
  rcases hk with rfl | rfl | rfl
  all_goals
    go_enter Tryz.func6, Tryz.ntmps6
    go_wp2_with fail
    refine (HP _).mono ?_
    rintro e w1 ⟨rfl, hb0⟩
    clear HP
    have hx := bel_d0 w1 (.cells #[.bool false, .slice none 0 0, .slice none 0 0] 41)
    replace hb0 := bel_tr hb0 hx
    clear hx
    go_wp2
    go_ret2
    exact ⟨rfl, hb0⟩
set_option maxRecDepth 100000 in
set_option maxHeartbeats 1000000 in
theorem readsW {s : ByteArray} {F : Nat} {B : Int} {K : Int} {er : Value} (w : World) (hT : TB w)
    (H1 : ∀ u, Below w.heap.size w u → Calls Tryz.prog 5 #[.string s] u fun e w' => e = .returned (.tuple #[.float .f64 F, er]) ∧ Below u.heap.size u w')
    (H2 : ∀ u, Calls Tryz.prog 6 #[.string s] u fun e w' => e = .returned (.tuple #[.int .u64 B, .int .i64 K]) ∧ Below u.heap.size u w')
    (H3 : ∀ u, Calls Tryz.prog 7 #[.float .f64 F, .int .u64 B] u fun e w' => e = .returned (.bool true) ∧ w' = u)
    (H4 : ∀ u, Below w.heap.size w u → Calls Tryz.prog 8 #[er] u fun e w' => e = .returned (.int .i64 K) ∧ Below u.heap.size u w') :
    Calls Tryz.prog 3 #[.string s] w fun e w' => e = .returned (.bool true) ∧ Below w.heap.size w w' := by
  go_enter Tryz.func3, Tryz.ntmps3
  go_wp2_with fail
  refine (awake4 _ hT).mono ?_
  rintro e w1 ⟨rfl, hb0⟩
  clear hT
  go_wp2_with fail
  refine (H1 _ hb0).mono ?_
  rintro e w2 ⟨rfl, hx⟩
  replace hb0 := bel_tr hb0 hx
  clear hx H1
  go_wp2_with fail
  refine (H2 _).mono ?_
  rintro e w3 ⟨rfl, hx⟩
  replace hb0 := bel_tr hb0 hx
  clear hx H2
  go_wp2_with fail
  refine (H3 _).mono ?_
  rintro e w4 ⟨rfl, e4⟩
  subst e4
  clear H3
  go_wp2_with fail
  refine (H4 _ hb0).mono ?_
  rintro e w5 ⟨rfl, hx⟩
  replace hb0 := bel_tr hb0 hx
  clear hx H4
  go_wp2
  go_ret
  exact ⟨by simp, hb0⟩
theorem reads_walk4 {s : ByteArray} (w : World) (hs : s.size ≤ 1048576) (hT : TB w) {a b c : Addr} {x y z : List UInt8} (A1 : Err3 w 0 a x) (B1 : Err3 w 1 b y) (C1 : Err3 w 2 c z) (h1 : y ≠ x) (h2 : z ≠ x) (h3 : z ≠ y) :
    Calls Tryz.prog 3 #[.string s] w fun e w' => e = .returned (.bool true) ∧ Below w.heap.size w w' := by
  have E : E3 w a b c x y z := ⟨A1, B1, C1, h1, h2, h3⟩
  rcases both s hs with ⟨r, S, R, hS, hR, HP, HD⟩ | ⟨HF, HD⟩ | ⟨HF, HD⟩ | ⟨HF, HD⟩
  · obtain ⟨t, hP⟩ := Pz.ex r
    have hb := fb_ok hP.fl.1 hP.fl.2
    exact readsW (K := 0) w hT (fun u hu => readOk t u (HP u (hT.below hu)) hS hP rfl) (fun u => readD t u HD hR hP rfl) (fun u => sameF _ u (by omega) (decide_eq_true rfl)) (fun u _ => code0 u)
  · exact readsW (B := 0) w hT (fun u hu => readEr u (E.below hu).2.1 HF) (fun u => readDE u HD (by omega)) (fun u => sameF 0 u (by decide) (by decide)) (fun u hu => code5 u (E.below hu))
  · exact readsW (B := 0) w hT (fun u hu => readEr u (E.below hu).2.2.1 HF) (fun u => readDE u HD (by omega)) (fun u => sameF 0 u (by decide) (by decide)) (fun u hu => code8 u (E.below hu))
  · exact readsW (B := 0) w hT (fun u hu => readEr u (E.below hu).1 HF) (fun u => readDE u HD (by omega)) (fun u => sameF 0 u (by decide) (by decide)) (fun u hu => code3 u (E.below hu))
end Go.Proofs.YtjlmboakeigmpaaGreatDoor

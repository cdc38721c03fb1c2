import Derived.Test.YtdfoiklcekhmpaaGreatDoorR5M
import Derived.Test.YtdfoiklcekhmpaaGreatDoorR3S
namespace Go.Proofs.YtdfoiklcekhmpaaGreatDoor
open Go.RowKit Go.Shelf

theorem is5 (w : World) {ev : Value} (E : Errs w 2 ev) : Calls Tryz.prog 31 #[ev, .int .i64 5] w fun e w' => e = .returned (.bool true) ∧ Below w.heap.size w w' := by
  obtain ⟨i, hi, hcmp⟩ := Option.map_eq_some_iff.1 Tryz.errCompR
  obtain ⟨jj, hj, _⟩ := Option.map_eq_some_iff.1 Tryz.errSizeR
  obtain ⟨ec, pp, rfl⟩ := E
  have heq := run_eql_iface_ptr_same (P := Tryz.prog) w pp Tryz.underlying30 Tryz.underlying172 hi hcmp hj
  go_enter Tryz.func31, Tryz.ntmps31
  go_wp2
  go_ret
  exact ⟨rfl, Below.refl _ _⟩
set_option maxHeartbeats 4000000 in
theorem told5 {f g : Bool} {c c2 : Option Addr} {n n2 k k2 : Nat} {d d2 : Option Addr} {nd nd2 kd kd2 : Nat} {S : Nat} (w : World) (ha : TR w f c n k d nd kd 0 S) (hS : S ≤ 7000000) (hS1 : 1 ≤ S) {ev : Value} (E : Errs w 2 ev) :
    Calls Tryz.prog 8 #[.agg #[.bool f, .slice c n k, .slice d nd kd], ev, .agg #[.bool g, .slice c2 n2 k2, .slice d2 nd2 kd2], .int .i64 5] w fun e w' => e = .returned (.bool true) ∧ Below w.heap.size w w' := by
  obtain ⟨P0, P1, hb0, hsz⟩ := box_rr w (.bool f) (.slice c n k) (.slice d nd kd) (.bool g) (.slice c2 n2 k2) (.slice d2 nd2 kd2) 28
  replace ha := ha.below hb0
  replace E := E.below hb0
  go_enter Tryz.func8, Tryz.ntmps8
  obtain ⟨p0c0, p0c1, p0c2, p0c3, p0c4, p0c5⟩ := id P0
  obtain ⟨p1c0, p1c1, p1c2, p1c3, p1c4, p1c5⟩ := id P1
  go_wp2_with fail
  generalize (w.alloc (.cells #[.bool f, .slice c n k, .slice d nd kd] 28)).alloc (.cells #[.bool g, .slice c2 n2 k2, .slice d2 nd2 kd2] 28) = W0 at *
  replace hsz := Nat.le_of_eq hsz.symm
  refine (likeDZ _ ha hS hS1).mono ?_
  rintro e w1 ⟨rfl, hx⟩
  clear p0c0 p0c1 p0c2 p0c3 p0c4 p0c5 p1c0 p1c1 p1c2 p1c3 p1c4 p1c5
  replace ha := ha.below hx
  replace E := E.below hx
  replace P0 := P0.below hx
  replace P1 := P1.below hx
  replace hb0 := bel_tr hb0 hx
  replace hsz := Nat.le_trans hsz (Below.size hx)
  clear hx
  go_wp2_with fail
  refine (is5 _ E).mono ?_
  rintro e w2 ⟨rfl, hx⟩
  replace ha := ha.below hx
  replace E := E.below hx
  replace P0 := P0.below hx
  replace P1 := P1.below hx
  replace hb0 := bel_tr hb0 hx
  replace hsz := Nat.le_trans hsz (Below.size hx)
  clear hx
  go_wp2
  go_ret
  exact ⟨rfl, hb0⟩
theorem is8 (w : World) {ev : Value} (E : Errs w 0 ev) : Calls Tryz.prog 31 #[ev, .int .i64 8] w fun e w' => e = .returned (.bool true) ∧ Below w.heap.size w w' := by
  obtain ⟨i, hi, hcmp⟩ := Option.map_eq_some_iff.1 Tryz.errCompR
  obtain ⟨jj, hj, _⟩ := Option.map_eq_some_iff.1 Tryz.errSizeR
  obtain ⟨ec, pp, rfl⟩ := E
  have heq := run_eql_iface_ptr_same (P := Tryz.prog) w pp Tryz.underlying30 Tryz.underlying172 hi hcmp hj
  go_enter Tryz.func31, Tryz.ntmps31
  go_wp2
  go_ret
  exact ⟨rfl, Below.refl _ _⟩
set_option maxHeartbeats 4000000 in
theorem told8 {f g : Bool} {c c2 : Option Addr} {n n2 k k2 : Nat} {d d2 : Option Addr} {nd nd2 kd kd2 : Nat} {S : Nat} (w : World) (ha : TR w f c n k d nd kd 0 S) (hS : S ≤ 7000000) (hS1 : 1 ≤ S) {ev : Value} (E : Errs w 0 ev) :
    Calls Tryz.prog 8 #[.agg #[.bool f, .slice c n k, .slice d nd kd], ev, .agg #[.bool g, .slice c2 n2 k2, .slice d2 nd2 kd2], .int .i64 8] w fun e w' => e = .returned (.bool true) ∧ Below w.heap.size w w' := by
  obtain ⟨P0, P1, hb0, hsz⟩ := box_rr w (.bool f) (.slice c n k) (.slice d nd kd) (.bool g) (.slice c2 n2 k2) (.slice d2 nd2 kd2) 28
  replace ha := ha.below hb0
  replace E := E.below hb0
  go_enter Tryz.func8, Tryz.ntmps8
  obtain ⟨p0c0, p0c1, p0c2, p0c3, p0c4, p0c5⟩ := id P0
  obtain ⟨p1c0, p1c1, p1c2, p1c3, p1c4, p1c5⟩ := id P1
  go_wp2_with fail
  generalize (w.alloc (.cells #[.bool f, .slice c n k, .slice d nd kd] 28)).alloc (.cells #[.bool g, .slice c2 n2 k2, .slice d2 nd2 kd2] 28) = W0 at *
  replace hsz := Nat.le_of_eq hsz.symm
  refine (likeDZ _ ha hS hS1).mono ?_
  rintro e w1 ⟨rfl, hx⟩
  clear p0c0 p0c1 p0c2 p0c3 p0c4 p0c5 p1c0 p1c1 p1c2 p1c3 p1c4 p1c5
  replace ha := ha.below hx
  replace E := E.below hx
  replace P0 := P0.below hx
  replace P1 := P1.below hx
  replace hb0 := bel_tr hb0 hx
  replace hsz := Nat.le_trans hsz (Below.size hx)
  clear hx
  go_wp2_with fail
  refine (is8 _ E).mono ?_
  rintro e w2 ⟨rfl, hx⟩
  replace ha := ha.below hx
  replace E := E.below hx
  replace P0 := P0.below hx
  replace P1 := P1.below hx
  replace hb0 := bel_tr hb0 hx
  replace hsz := Nat.le_trans hsz (Below.size hx)
  clear hx
  go_wp2
  go_ret
  exact ⟨rfl, hb0⟩
theorem trZ (w : World) : TR w false none 0 0 none 0 0 0 1 := ⟨0, 0, ((GI.nil _ 0).le (by decide)).ti, (Num.nil _).le1, by simp⟩
set_option maxRecDepth 100000 in
set_option maxHeartbeats 4000000 in
theorem reads_ok {s : ByteArray} (w : World) (hT : TB w) {dv : Value} (E : Errs w 1 dv) {r : Rat} {S R : Nat} (hS : S ≤ 5000000) (hP : ∀ w, TB w → Parses s r S w) (hD : DocOk s r R) :
    Calls Tryz.prog 3 #[.string s] w fun e w' => e = .returned (.bool true) ∧ Below w.heap.size w w' := by
  go_enter Tryz.func3, Tryz.ntmps3
  go_wp2_with fail
  refine (shownQ _ hT E).mono ?_
  rintro e w1 ⟨rfl, hx⟩
  replace hT := hT.below hx
  replace E := E.below hx
  have hb0 := hx
  clear hx
  go_wp2_with fail
  refine (hP _ hT).mono ?_
  rintro e w2 ⟨f1, c1, n1, k1, d1, m1, l1, rfl, G1, hx⟩
  replace hT := hT.below hx
  replace E := E.below hx
  replace hb0 := bel_tr hb0 hx
  clear hx
  have V1 := var3_new w2 (.bool f1) (.slice c1 n1 k1) (.slice d1 m1 l1) 28
  have hx := bel_d0 w2 (.cells #[.bool f1, .slice c1 n1 k1, .slice d1 m1 l1] 28)
  replace hT := hT.below hx
  replace E := E.below hx
  replace G1 := G1.below hx
  replace hb0 := bel_tr hb0 hx
  clear hx
  go_wp2_with fail
  generalize w2.alloc (.cells #[.bool f1, .slice c1 n1 k1, .slice d1 m1 l1] 28) = w3 at *
  refine (hD _).mono ?_
  rintro e w4 ⟨f2, c2, n2, k2, d2, m2, l2, rfl, G2, hx⟩
  replace hT := hT.below hx
  replace E := E.below hx
  replace G1 := G1.below hx
  replace V1 := V1.below hx
  replace hb0 := bel_tr hb0 hx
  clear hx
  have V2 := var3_new w4 (.bool f2) (.slice c2 n2 k2) (.slice d2 m2 l2) 28
  have hx := bel_d0 w4 (.cells #[.bool f2, .slice c2 n2 k2, .slice d2 m2 l2] 28)
  replace hT := hT.below hx
  replace E := E.below hx
  replace G1 := G1.below hx
  replace V1 := V1.below hx
  replace G2 := G2.below hx
  replace hb0 := bel_tr hb0 hx
  clear hx
  obtain ⟨v1c0, v1c1, v1c2, v1c3, v1c4, v1c5⟩ := id V1
  obtain ⟨v2c0, v2c1, v2c2, v2c3, v2c4, v2c5⟩ := id V2
  go_wp2_with fail
  generalize w4.alloc (.cells #[.bool f2, .slice c2 n2 k2, .slice d2 m2 l2] 28) = w5 at *
  refine (toldQ _ G1 G2 rfl (by omega)).mono ?_
  rintro e w6 ⟨rfl, hx⟩
  replace hb0 := bel_tr hb0 hx
  clear hx v1c0 v1c1 v1c2 v1c3 v1c4 v1c5 v2c0 v2c1 v2c2 v2c3 v2c4 v2c5 V1 V2
  go_wp2
  go_ret
  exact ⟨rfl, hb0⟩
set_option maxRecDepth 100000 in
set_option maxHeartbeats 4000000 in
theorem reads_5 {s : ByteArray} (w : World) (hT : TB w) {dv : Value} (E : Errs w 1 dv) {ev : Value} (X : Errs w 2 ev) (hP : Fails s 2) (hD : DocErr s 5) :
    Calls Tryz.prog 3 #[.string s] w fun e w' => e = .returned (.bool true) ∧ Below w.heap.size w w' := by
  go_enter Tryz.func3, Tryz.ntmps3
  go_wp2_with fail
  refine (shownQ _ hT E).mono ?_
  rintro e w1 ⟨rfl, hx⟩
  replace hT := hT.below hx
  replace E := E.below hx
  replace X := X.below hx
  have hb0 := hx
  clear hx
  go_wp2_with fail
  refine (hP _ _ X).mono ?_
  rintro e w2 ⟨rfl, hx⟩
  replace hT := hT.below hx
  replace E := E.below hx
  replace X := X.below hx
  replace hb0 := bel_tr hb0 hx
  clear hx
  have V1 := var3_new w2 (.bool false) (.slice none 0 0) (.slice none 0 0) 28
  have hx := bel_d0 w2 (.cells #[.bool false, .slice none 0 0, .slice none 0 0] 28)
  replace hT := hT.below hx
  replace E := E.below hx
  replace X := X.below hx
  replace hb0 := bel_tr hb0 hx
  clear hx
  go_wp2_with fail
  generalize w2.alloc (.cells #[.bool false, .slice none 0 0, .slice none 0 0] 28) = w3 at *
  refine (hD _).mono ?_
  rintro e w4 ⟨rfl, hx⟩
  replace hT := hT.below hx
  replace E := E.below hx
  replace X := X.below hx
  replace V1 := V1.below hx
  replace hb0 := bel_tr hb0 hx
  clear hx
  have V2 := var3_new w4 (.bool false) (.slice none 0 0) (.slice none 0 0) 28
  have hx := bel_d0 w4 (.cells #[.bool false, .slice none 0 0, .slice none 0 0] 28)
  replace hT := hT.below hx
  replace E := E.below hx
  replace X := X.below hx
  replace V1 := V1.below hx
  replace hb0 := bel_tr hb0 hx
  clear hx
  obtain ⟨v1c0, v1c1, v1c2, v1c3, v1c4, v1c5⟩ := id V1
  obtain ⟨v2c0, v2c1, v2c2, v2c3, v2c4, v2c5⟩ := id V2
  go_wp2_with fail
  generalize w4.alloc (.cells #[.bool false, .slice none 0 0, .slice none 0 0] 28) = w5 at *
  refine (told5 _ (trZ _) (by decide) (by decide) X).mono ?_
  rintro e w6 ⟨rfl, hx⟩
  replace hb0 := bel_tr hb0 hx
  clear hx v1c0 v1c1 v1c2 v1c3 v1c4 v1c5 v2c0 v2c1 v2c2 v2c3 v2c4 v2c5 V1 V2
  go_wp2
  go_ret
  exact ⟨rfl, hb0⟩
set_option maxRecDepth 100000 in
set_option maxHeartbeats 4000000 in
theorem reads_8 {s : ByteArray} (w : World) (hT : TB w) {dv : Value} (E : Errs w 1 dv) {ev : Value} (X : Errs w 0 ev) (hP : Fails s 0) (hD : DocErr s 8) :
    Calls Tryz.prog 3 #[.string s] w fun e w' => e = .returned (.bool true) ∧ Below w.heap.size w w' := by
  go_enter Tryz.func3, Tryz.ntmps3
  go_wp2_with fail
  refine (shownQ _ hT E).mono ?_
  rintro e w1 ⟨rfl, hx⟩
  replace hT := hT.below hx
  replace E := E.below hx
  replace X := X.below hx
  have hb0 := hx
  clear hx
  go_wp2_with fail
  refine (hP _ _ X).mono ?_
  rintro e w2 ⟨rfl, hx⟩
  replace hT := hT.below hx
  replace E := E.below hx
  replace X := X.below hx
  replace hb0 := bel_tr hb0 hx
  clear hx
  have V1 := var3_new w2 (.bool false) (.slice none 0 0) (.slice none 0 0) 28
  have hx := bel_d0 w2 (.cells #[.bool false, .slice none 0 0, .slice none 0 0] 28)
  replace hT := hT.below hx
  replace E := E.below hx
  replace X := X.below hx
  replace hb0 := bel_tr hb0 hx
  clear hx
  go_wp2_with fail
  generalize w2.alloc (.cells #[.bool false, .slice none 0 0, .slice none 0 0] 28) = w3 at *
  refine (hD _).mono ?_
  rintro e w4 ⟨rfl, hx⟩
  replace hT := hT.below hx
  replace E := E.below hx
  replace X := X.below hx
  replace V1 := V1.below hx
  replace hb0 := bel_tr hb0 hx
  clear hx
  have V2 := var3_new w4 (.bool false) (.slice none 0 0) (.slice none 0 0) 28
  have hx := bel_d0 w4 (.cells #[.bool false, .slice none 0 0, .slice none 0 0] 28)
  replace hT := hT.below hx
  replace E := E.below hx
  replace X := X.below hx
  replace V1 := V1.below hx
  replace hb0 := bel_tr hb0 hx
  clear hx
  obtain ⟨v1c0, v1c1, v1c2, v1c3, v1c4, v1c5⟩ := id V1
  obtain ⟨v2c0, v2c1, v2c2, v2c3, v2c4, v2c5⟩ := id V2
  go_wp2_with fail
  generalize w4.alloc (.cells #[.bool false, .slice none 0 0, .slice none 0 0] 28) = w5 at *
  refine (told8 _ (trZ _) (by decide) (by decide) X).mono ?_
  rintro e w6 ⟨rfl, hx⟩
  replace hb0 := bel_tr hb0 hx
  clear hx v1c0 v1c1 v1c2 v1c3 v1c4 v1c5 v2c0 v2c1 v2c2 v2c3 v2c4 v2c5 V1 V2
  go_wp2
  go_ret
  exact ⟨rfl, hb0⟩
set_option maxRecDepth 100000 in
set_option maxHeartbeats 4000000 in
theorem reads_3 {s : ByteArray} (w : World) (hT : TB w) {dv : Value} (E : Errs w 1 dv) (hP : Fails s 1) (hD : DocErr s 3) :
    Calls Tryz.prog 3 #[.string s] w fun e w' => e = .returned (.bool true) ∧ Below w.heap.size w w' := by
  go_enter Tryz.func3, Tryz.ntmps3
  go_wp2_with fail
  refine (shownQ _ hT E).mono ?_
  rintro e w1 ⟨rfl, hx⟩
  replace hT := hT.below hx
  replace E := E.below hx
  have hb0 := hx
  clear hx
  go_wp2_with fail
  refine (hP _ _ E).mono ?_
  rintro e w2 ⟨rfl, hx⟩
  replace hT := hT.below hx
  replace E := E.below hx
  replace hb0 := bel_tr hb0 hx
  clear hx
  have V1 := var3_new w2 (.bool false) (.slice none 0 0) (.slice none 0 0) 28
  have hx := bel_d0 w2 (.cells #[.bool false, .slice none 0 0, .slice none 0 0] 28)
  replace hT := hT.below hx
  replace E := E.below hx
  replace hb0 := bel_tr hb0 hx
  clear hx
  go_wp2_with fail
  generalize w2.alloc (.cells #[.bool false, .slice none 0 0, .slice none 0 0] 28) = w3 at *
  refine (hD _).mono ?_
  rintro e w4 ⟨rfl, hx⟩
  replace hT := hT.below hx
  replace E := E.below hx
  replace V1 := V1.below hx
  replace hb0 := bel_tr hb0 hx
  clear hx
  have V2 := var3_new w4 (.bool false) (.slice none 0 0) (.slice none 0 0) 28
  have hx := bel_d0 w4 (.cells #[.bool false, .slice none 0 0, .slice none 0 0] 28)
  replace hT := hT.below hx
  replace E := E.below hx
  replace V1 := V1.below hx
  replace hb0 := bel_tr hb0 hx
  clear hx
  obtain ⟨v1c0, v1c1, v1c2, v1c3, v1c4, v1c5⟩ := id V1
  obtain ⟨v2c0, v2c1, v2c2, v2c3, v2c4, v2c5⟩ := id V2
  go_wp2_with fail
  generalize w4.alloc (.cells #[.bool false, .slice none 0 0, .slice none 0 0] 28) = w5 at *
  refine (toldE _ (trZ _) (by decide) (by decide) E).mono ?_
  rintro e w6 ⟨rfl, hx⟩
  replace hb0 := bel_tr hb0 hx
  clear hx v1c0 v1c1 v1c2 v1c3 v1c4 v1c5 v2c0 v2c1 v2c2 v2c3 v2c4 v2c5 V1 V2
  go_wp2
  go_ret
  exact ⟨rfl, hb0⟩
theorem reads_walk {s : ByteArray} (w : World) (hs : s.size ≤ 1048576) (hT : TB w) {dv nv xv : Value} (E : Errs w 1 dv) (N : Errs w 2 nv) (X : Errs w 0 xv) :
    Calls Tryz.prog 3 #[.string s] w fun e w' => e = .returned (.bool true) ∧ Below w.heap.size w w' := by
  rcases both s hs with ⟨r, S, R, h1, _, h3, h4⟩ | ⟨h1, h2⟩ | ⟨h1, h2⟩ | ⟨h1, h2⟩
  · exact reads_ok w hT E h1 h3 h4
  · exact reads_5 w hT E N h1 h2
  · exact reads_8 w hT E X h1 h2
  · exact reads_3 w hT E h1 h2
end Go.Proofs.YtdfoiklcekhmpaaGreatDoor

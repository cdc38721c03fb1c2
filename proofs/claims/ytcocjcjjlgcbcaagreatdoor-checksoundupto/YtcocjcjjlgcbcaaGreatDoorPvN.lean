import Derived.Test.YtcocjcjjlgcbcaaGreatDoorLs
import Derived.Test.YtcocjcjjlgcbcaaGreatDoorPvM
import Derived.Test.YtcocjcjjlgcbcaaGreatDoorPvI
namespace Go.Proofs.YtcocjcjjlgcbcaaGreatDoor
open Go.RowKit

theorem InfR.up {P : Prob} {C : Crt} {eS eB : Value} {w w0 w' : World} {e : Ending} (h : InfR P C eS eB w0 e w') (hb : Below w.heap.size w w0) : InfR P C eS eB w e w' := ⟨bel_tr hb h.1, h.2⟩
theorem InfR.val {P : Prob} {C : Crt} {eS eB : Value} {w w' : World} {e : Ending} (h : InfR P C eS eB w e w') : ∃ v, e = .returned v := by
  rcases h.2 with ⟨_, h⟩ | ⟨_, ⟨_, h⟩ | ⟨_, ⟨_, h⟩ | ⟨_, _, h⟩⟩⟩ <;> exact ⟨_, h⟩
theorem UnbR.up {P : Prob} {C : Crt} {eS eP eR : Value} {w w0 w' : World} {e : Ending} (h : UnbR P C eS eP eR w0 e w') (hb : Below w.heap.size w w0) : UnbR P C eS eP eR w e w' := ⟨bel_tr hb h.1, h.2⟩
theorem UnbR.val {P : Prob} {C : Crt} {eS eP eR : Value} {w w' : World} {e : Ending} (h : UnbR P C eS eP eR w e w') : ∃ v, e = .returned v := by
  rcases h.2 with ⟨_, h⟩ | ⟨_, _, ⟨_, h⟩ | ⟨_, ⟨_, h⟩ | ⟨_, _, h⟩⟩⟩ <;> exact ⟨_, h⟩
set_option maxRecDepth 100000 in
set_option maxHeartbeats 4000000 in
theorem chk2 (P : Prob) (C : Crt) (w : World) (hv : C.vd = 2) (hP : PQ w P) (hC : CQ w C) (hK : P.K + C.K ≤ 1048576) (hT : TB w) {eS eP eV eR eD : Value} {pB : Addr} (EH : EE w eS eP eV (.iface 139 (.pointer (some pB))) eR eD) :
    Calls Tryz.prog 6 #[P.val, C.val] w fun e w' => InfR P C eS (.iface 139 (.pointer (some pB))) w e w' := by
  have HV : Hid (C.vd = 2) := hv
  clear hv
  have HQ := fun w1 (hb : Below w.heap.size w w1) => infQ P C w1 (hP.below hb) (hC.below hb) hK (hT.below hb) (EH.below hb)
  unfold Prob.val Crt.val at *
  rw [HV.out] at HQ ⊢
  have Pb := box_new w #[.bool P.mx, .string P.nm, .bool P.p, .slice P.a P.na P.ca, .slice P.d P.nd P.cd, .slice P.va P.vn P.vc, .slice P.ra P.rn P.rc] 31
  have hz0 := bel_d0 w (.cells #[.bool P.mx, .string P.nm, .bool P.p, .slice P.a P.na P.ca, .slice P.d P.nd P.cd, .slice P.va P.vn P.vc, .slice P.ra P.rn P.rc] 31)
  have hs0 : (w.alloc (.cells #[.bool P.mx, .string P.nm, .bool P.p, .slice P.a P.na P.ca, .slice P.d P.nd P.cd, .slice P.va P.vn P.vc, .slice P.ra P.rn P.rc] 31)).heap.size = w.heap.size + 1 := by simp
  have Cb := box_new (w.alloc (.cells #[.bool P.mx, .string P.nm, .bool P.p, .slice P.a P.na P.ca, .slice P.d P.nd P.cd, .slice P.va P.vn P.vc, .slice P.ra P.rn P.rc] 31)) #[.int .i64 2, .bool C.p, .slice C.a C.na C.ca, .slice C.d C.nd C.cd, .slice C.xa C.xn C.xc, .slice C.ya C.yn C.yc, .slice C.za C.zn C.zc] 34
  have hz1 := bel_d0 (w.alloc (.cells #[.bool P.mx, .string P.nm, .bool P.p, .slice P.a P.na P.ca, .slice P.d P.nd P.cd, .slice P.va P.vn P.vc, .slice P.ra P.rn P.rc] 31)) (.cells #[.int .i64 2, .bool C.p, .slice C.a C.na C.ca, .slice C.d C.nd C.cd, .slice C.xa C.xn C.xc, .slice C.ya C.yn C.yc, .slice C.za C.zn C.zc] 34)
  rw [hs0] at Cb
  replace Pb := Pb.below hz1
  have hb0 := bel_tr hz0 hz1
  clear hz0 hz1 hs0
  have p0 := Pb 0 _ rfl; have p1 := Pb 1 _ rfl; have p2 := Pb 2 _ rfl; have p3 := Pb 3 _ rfl; have p4 := Pb 4 _ rfl; have p5 := Pb 5 _ rfl; have p6 := Pb 6 _ rfl
  have c0 := Cb 0 _ rfl; have c1 := Cb 1 _ rfl; have c2 := Cb 2 _ rfl; have c3 := Cb 3 _ rfl; have c4 := Cb 4 _ rfl; have c5 := Cb 5 _ rfl; have c6 := Cb 6 _ rfl
  go_enter Tryz.func6, Tryz.ntmps6
  go_wp2_with fail
  clear p0 p1 p2 p3 p4 p5 p6 c0 c1 c2 c3 c4 c5 c6
  generalize (w.alloc (.cells #[.bool P.mx, .string P.nm, .bool P.p, .slice P.a P.na P.ca, .slice P.d P.nd P.cd, .slice P.va P.vn P.vc, .slice P.ra P.rn P.rc] 31)).alloc (.cells #[.int .i64 2, .bool C.p, .slice C.a C.na C.ca, .slice C.d C.nd C.cd, .slice C.xa C.xn C.xc, .slice C.ya C.yn C.yc, .slice C.za C.zn C.zc] 34) = W0 at *
  refine (HQ W0 hb0).mono ?_
  intro e w1 HR
  replace HR := HR.up hb0
  clear Pb Cb hb0 HQ
  obtain ⟨v, rfl⟩ := HR.val
  go_wp2
  go_ret
  exact HR
set_option maxRecDepth 100000 in
set_option maxHeartbeats 4000000 in
theorem chk3 (P : Prob) (C : Crt) (w : World) (hv : C.vd = 3) (hP : PQ w P) (hC : CQ w C) (hK : P.K + C.K ≤ 1048576) (hT : TB w) {eS eP eV eR eD : Value} {pB : Addr} (EH : EE w eS eP eV (.iface 139 (.pointer (some pB))) eR eD) :
    Calls Tryz.prog 6 #[P.val, C.val] w fun e w' => UnbR P C eS eP eR w e w' := by
  have HV : Hid (C.vd = 3) := hv
  clear hv
  have HQ := fun w1 (hb : Below w.heap.size w w1) => unbQ P C w1 (hP.below hb) (hC.below hb) hK (hT.below hb) (EH.below hb)
  unfold Prob.val Crt.val at *
  rw [HV.out] at HQ ⊢
  have Pb := box_new w #[.bool P.mx, .string P.nm, .bool P.p, .slice P.a P.na P.ca, .slice P.d P.nd P.cd, .slice P.va P.vn P.vc, .slice P.ra P.rn P.rc] 31
  have hz0 := bel_d0 w (.cells #[.bool P.mx, .string P.nm, .bool P.p, .slice P.a P.na P.ca, .slice P.d P.nd P.cd, .slice P.va P.vn P.vc, .slice P.ra P.rn P.rc] 31)
  have hs0 : (w.alloc (.cells #[.bool P.mx, .string P.nm, .bool P.p, .slice P.a P.na P.ca, .slice P.d P.nd P.cd, .slice P.va P.vn P.vc, .slice P.ra P.rn P.rc] 31)).heap.size = w.heap.size + 1 := by simp
  have Cb := box_new (w.alloc (.cells #[.bool P.mx, .string P.nm, .bool P.p, .slice P.a P.na P.ca, .slice P.d P.nd P.cd, .slice P.va P.vn P.vc, .slice P.ra P.rn P.rc] 31)) #[.int .i64 3, .bool C.p, .slice C.a C.na C.ca, .slice C.d C.nd C.cd, .slice C.xa C.xn C.xc, .slice C.ya C.yn C.yc, .slice C.za C.zn C.zc] 34
  have hz1 := bel_d0 (w.alloc (.cells #[.bool P.mx, .string P.nm, .bool P.p, .slice P.a P.na P.ca, .slice P.d P.nd P.cd, .slice P.va P.vn P.vc, .slice P.ra P.rn P.rc] 31)) (.cells #[.int .i64 3, .bool C.p, .slice C.a C.na C.ca, .slice C.d C.nd C.cd, .slice C.xa C.xn C.xc, .slice C.ya C.yn C.yc, .slice C.za C.zn C.zc] 34)
  rw [hs0] at Cb
  replace Pb := Pb.below hz1
  have hb0 := bel_tr hz0 hz1
  clear hz0 hz1 hs0
  have p0 := Pb 0 _ rfl; have p1 := Pb 1 _ rfl; have p2 := Pb 2 _ rfl; have p3 := Pb 3 _ rfl; have p4 := Pb 4 _ rfl; have p5 := Pb 5 _ rfl; have p6 := Pb 6 _ rfl
  have c0 := Cb 0 _ rfl; have c1 := Cb 1 _ rfl; have c2 := Cb 2 _ rfl; have c3 := Cb 3 _ rfl; have c4 := Cb 4 _ rfl; have c5 := Cb 5 _ rfl; have c6 := Cb 6 _ rfl
  go_enter Tryz.func6, Tryz.ntmps6
  go_wp2_with fail
  clear p0 p1 p2 p3 p4 p5 p6 c0 c1 c2 c3 c4 c5 c6
  generalize (w.alloc (.cells #[.bool P.mx, .string P.nm, .bool P.p, .slice P.a P.na P.ca, .slice P.d P.nd P.cd, .slice P.va P.vn P.vc, .slice P.ra P.rn P.rc] 31)).alloc (.cells #[.int .i64 3, .bool C.p, .slice C.a C.na C.ca, .slice C.d C.nd C.cd, .slice C.xa C.xn C.xc, .slice C.ya C.yn C.yc, .slice C.za C.zn C.zc] 34) = W0 at *
  refine (HQ W0 hb0).mono ?_
  intro e w1 HR
  replace HR := HR.up hb0
  clear Pb Cb hb0 HQ
  obtain ⟨v, rfl⟩ := HR.val
  go_wp2
  go_ret
  exact HR
/-- One of the six errors. -/
def Six (eS eP eV eB eR eD v : Value) : Prop := v = eS ∨ v = eP ∨ v = eV ∨ v = eB ∨ v = eR ∨ v = eD
/-- What an accepted certificate says. -/
def Snd (P : Prob) (C : Crt) : Prop :=
  (C.vd = 1 ∧ C.xn = P.vn ∧ Hlds P C.xn C.X ∧ vlu P C.X = C.v ∧ okS P C.Y ∧ pvS P C.Y = C.v) ∨ (C.vd = 2 ∧ ∀ n X, ¬ Hlds P n X) ∨ (C.vd = 3 ∧ C.xn = P.vn ∧ C.zn = P.vn ∧ Hlds P C.xn C.X ∧ Dir P C.Z ∧ imp P C.Z)
def ChkR (P : Prob) (C : Crt) (eS eP eV eB eR eD : Value) (w : World) (e : Ending) (w' : World) : Prop :=
  Below w.heap.size w w' ∧ ((∃ v, e = .returned v ∧ Six eS eP eV eB eR eD v) ∨ (e = .returned .nilIface ∧ Snd P C))
/-- check.Check of any problem and certificate: it is sound. -/
theorem chkA (P : Prob) (C : Crt) (w : World) (hP : PQ w P) (hC : CQ w C) (hK : P.K + C.K ≤ 1048576) (hT : TB w) {eS eP eV eR eD : Value} {pB : Addr} (EH : EE w eS eP eV (.iface 139 (.pointer (some pB))) eR eD) :
    Calls Tryz.prog 6 #[P.val, C.val] w fun e w' => ChkR P C eS eP eV (.iface 139 (.pointer (some pB))) eR eD w e w' := by
  by_cases h1 : C.vd = 1
  · refine (chk1 P C w h1 hP hC hK hT EH).mono ?_
    rintro e w' ⟨hb, h⟩
    refine ⟨hb, ?_⟩
    rcases h with ⟨_, h⟩ | ⟨hx, _, ⟨_, h⟩ | ⟨hl, ⟨_, h⟩ | ⟨hv, ⟨_, h⟩ | ⟨ho, hp, h⟩⟩⟩⟩
    · exact .inl ⟨_, h, .inl rfl⟩
    · exact .inl ⟨_, h, .inr (.inl rfl)⟩
    · exact .inl ⟨_, h, .inr (.inr (.inl rfl))⟩
    · exact .inl ⟨_, h, .inr (.inr (.inr (.inl rfl)))⟩
    · exact .inr ⟨h, .inl ⟨h1, hx, hl, hv, ho, hp⟩⟩
  by_cases h2 : C.vd = 2
  · refine (chk2 P C w h2 hP hC hK hT EH).mono ?_
    rintro e w' ⟨hb, h⟩
    refine ⟨hb, ?_⟩
    rcases h with ⟨_, h⟩ | ⟨_, ⟨hc, h⟩ | ⟨_, ⟨_, h⟩ | ⟨ho, hp, h⟩⟩⟩
    · exact .inl ⟨_, h, .inl rfl⟩
    · exact .inr ⟨h, .inr (.inl ⟨h2, fun n X => crs_none hc⟩)⟩
    · exact .inl ⟨_, h, .inr (.inr (.inr (.inl rfl)))⟩
    · exact .inr ⟨h, .inr (.inl ⟨h2, fun n X => bare_none ho hp⟩)⟩
  by_cases h3 : C.vd = 3
  · refine (chk3 P C w h3 hP hC hK hT EH).mono ?_
    rintro e w' ⟨hb, h⟩
    refine ⟨hb, ?_⟩
    rcases h with ⟨_, h⟩ | ⟨hx, hz, ⟨_, h⟩ | ⟨hl, ⟨_, h⟩ | ⟨hd, hi, h⟩⟩⟩
    · exact .inl ⟨_, h, .inl rfl⟩
    · exact .inl ⟨_, h, .inr (.inl rfl)⟩
    · exact .inl ⟨_, h, .inr (.inr (.inr (.inr (.inl rfl))))⟩
    · exact .inr ⟨h, .inr (.inr ⟨h3, hx, hz, hl, hd, hi⟩)⟩
  · refine (chk4 P C w h1 h2 h3 EH).mono ?_
    rintro e w' ⟨h, hb⟩
    exact ⟨hb, .inl ⟨_, h, .inr (.inr (.inr (.inr (.inr rfl))))⟩⟩
set_option maxRecDepth 100000 in
theorem codeS (w : World) {pS : Addr} {tS : List UInt8} (ES : Err3 w 3 pS tS)  :
    Calls Tryz.prog 7 #[.iface 139 (.pointer (some pS))] w fun e w' => e = .returned (.int .i64 17) ∧ Below w.heap.size w w' := by
  have hS := eqS14 w pS; have gS := ES.1
  go_enter Tryz.func7, Tryz.ntmps7
  go_wp2
  go_ret
  exact ⟨rfl, Below.refl _ _⟩
set_option maxRecDepth 100000 in
theorem codeP (w : World) {pS : Addr} {tS : List UInt8} {pP : Addr} {tP : List UInt8} (ES : Err3 w 3 pS tS) (EP : Err3 w 4 pP tP) (nPS : tP ≠ tS) :
    Calls Tryz.prog 7 #[.iface 139 (.pointer (some pP))] w fun e w' => e = .returned (.int .i64 18) ∧ Below w.heap.size w w' := by
  have hS := eqO14 EP ES nPS; have hP := eqS14 w pP; have gS := ES.1; have gP := EP.1
  go_enter Tryz.func7, Tryz.ntmps7
  go_wp2
  go_ret
  exact ⟨rfl, Below.refl _ _⟩
set_option maxRecDepth 100000 in
theorem codeV (w : World) {pS : Addr} {tS : List UInt8} {pP : Addr} {tP : List UInt8} {pV : Addr} {tV : List UInt8} (ES : Err3 w 3 pS tS) (EP : Err3 w 4 pP tP) (EV : Err3 w 1 pV tV) (nVS : tV ≠ tS) (nVP : tV ≠ tP) :
    Calls Tryz.prog 7 #[.iface 139 (.pointer (some pV))] w fun e w' => e = .returned (.int .i64 19) ∧ Below w.heap.size w w' := by
  have hS := eqO14 EV ES nVS; have hP := eqO14 EV EP nVP; have hV := eqS14 w pV; have gS := ES.1; have gP := EP.1; have gV := EV.1
  go_enter Tryz.func7, Tryz.ntmps7
  go_wp2
  go_ret
  exact ⟨rfl, Below.refl _ _⟩
set_option maxRecDepth 100000 in
theorem codeB (w : World) {pS : Addr} {tS : List UInt8} {pP : Addr} {tP : List UInt8} {pV : Addr} {tV : List UInt8} {pB : Addr} {tB : List UInt8} (ES : Err3 w 3 pS tS) (EP : Err3 w 4 pP tP) (EV : Err3 w 1 pV tV) (EB : Err3 w 0 pB tB) (nBS : tB ≠ tS) (nBP : tB ≠ tP) (nBV : tB ≠ tV) :
    Calls Tryz.prog 7 #[.iface 139 (.pointer (some pB))] w fun e w' => e = .returned (.int .i64 20) ∧ Below w.heap.size w w' := by
  have hS := eqO14 EB ES nBS; have hP := eqO14 EB EP nBP; have hV := eqO14 EB EV nBV; have hB := eqS14 w pB; have gS := ES.1; have gP := EP.1; have gV := EV.1; have gB := EB.1
  go_enter Tryz.func7, Tryz.ntmps7
  go_wp2
  go_ret
  exact ⟨rfl, Below.refl _ _⟩
set_option maxRecDepth 100000 in
theorem codeR (w : World) {pS : Addr} {tS : List UInt8} {pP : Addr} {tP : List UInt8} {pV : Addr} {tV : List UInt8} {pB : Addr} {tB : List UInt8} {pR : Addr} {tR : List UInt8} (ES : Err3 w 3 pS tS) (EP : Err3 w 4 pP tP) (EV : Err3 w 1 pV tV) (EB : Err3 w 0 pB tB) (ER : Err3 w 5 pR tR) (nRS : tR ≠ tS) (nRP : tR ≠ tP) (nRV : tR ≠ tV) (nRB : tR ≠ tB) :
    Calls Tryz.prog 7 #[.iface 139 (.pointer (some pR))] w fun e w' => e = .returned (.int .i64 21) ∧ Below w.heap.size w w' := by
  have hS := eqO14 ER ES nRS; have hP := eqO14 ER EP nRP; have hV := eqO14 ER EV nRV; have hB := eqO14 ER EB nRB; have hR := eqS14 w pR; have gS := ES.1; have gP := EP.1; have gV := EV.1; have gB := EB.1; have gR := ER.1
  go_enter Tryz.func7, Tryz.ntmps7
  go_wp2
  go_ret
  exact ⟨rfl, Below.refl _ _⟩
set_option maxRecDepth 100000 in
theorem codeD (w : World) {pS : Addr} {tS : List UInt8} {pP : Addr} {tP : List UInt8} {pV : Addr} {tV : List UInt8} {pB : Addr} {tB : List UInt8} {pR : Addr} {tR : List UInt8} {pD : Addr} {tD : List UInt8} (ES : Err3 w 3 pS tS) (EP : Err3 w 4 pP tP) (EV : Err3 w 1 pV tV) (EB : Err3 w 0 pB tB) (ER : Err3 w 5 pR tR) (ED : Err3 w 2 pD tD) (nDS : tD ≠ tS) (nDP : tD ≠ tP) (nDV : tD ≠ tV) (nDB : tD ≠ tB) (nDR : tD ≠ tR) :
    Calls Tryz.prog 7 #[.iface 139 (.pointer (some pD))] w fun e w' => e = .returned (.int .i64 22) ∧ Below w.heap.size w w' := by
  have hS := eqO14 ED ES nDS; have hP := eqO14 ED EP nDP; have hV := eqO14 ED EV nDV; have hB := eqO14 ED EB nDB; have hR := eqO14 ED ER nDR; have hD := eqS14 w pD; have gS := ES.1; have gP := EP.1; have gV := EV.1; have gB := EB.1; have gR := ER.1; have gD := ED.1
  go_enter Tryz.func7, Tryz.ntmps7
  go_wp2
  go_ret
  exact ⟨rfl, Below.refl _ _⟩
set_option maxRecDepth 100000 in
set_option maxHeartbeats 16000000 in
/-- law14.farther: a point, and a direction so often. -/
theorem fartherQ {xa : Option Addr} {n xc : Nat} {X : Nat → Rat} {Zx : Nat → Nat} {za : Option Addr} {zc : Nat} {Z : Nat → Rat} {Zz : Nat → Nat} {p : Bool} {a : Option Addr} {na ca : Nat} {d : Option Addr} {nd cd : Nat} {t : Rat} {Kx Kz Kt : Nat} (w : World) (hx : LQ w xa n X Zx) (hzx : ∀ i, i < n → 1 ≤ Zx i ∧ Zx i ≤ Kx) (hz : LQ w za n Z Zz) (hzz : ∀ i, i < n → 1 ≤ Zz i ∧ Zz i ≤ Kz) (ht : TR w p a na ca d nd cd t Kt) (hKt : 1 ≤ Kt) (hK : Kx + Kz + Kt ≤ 2200000) (hn : n ≤ 1048576) :
    Calls Tryz.prog 13 #[.slice xa n xc, .agg #[.bool p, .slice a na ca, .slice d nd cd], .slice za n zc] w fun e w' => ∃ b cap, e = .returned (.slice b n cap) ∧ LQ w' b n (fun j => X j + t * Z j) (fun _ => Kx + Kt + Kz + 1) ∧ Below w.heap.size w w' := by
  have HZX : Hid (∀ i, i < n → 1 ≤ Zx i ∧ Zx i ≤ Kx) := hzx
  have HZZ : Hid (∀ i, i < n → 1 ≤ Zz i ∧ Zz i ≤ Kz) := hzz
  have Tb := box_new w #[.bool p, .slice a na ca, .slice d nd cd] 27
  have hb0 := bel_d0 w (.cells #[.bool p, .slice a na ca, .slice d nd cd] 27)
  have hs0 : w.heap.size + 1 ≤ (w.alloc (.cells #[.bool p, .slice a na ca, .slice d nd cd] 27)).heap.size := by simp
  clear hzx hzz
  go_enter Tryz.func13, Tryz.ntmps13
  go_wp2
  generalize w.alloc (.cells #[.bool p, .slice a na ca, .slice d nd cd] 27) = W0 at *
  go_loopw [7, 8] (fun s7 s8 wr => ∃ (j : Nat), j ≤ n ∧ s8 = .int .i64 j ∧ MX wr (w.heap.size + 1) w.heap.size s7 j (fun j => X j + t * Z j) (Kx + Kt + Kz + 1) ∧ BoxC wr w.heap.size [.bool p, .slice a na ca, .slice d nd cd] ∧ Below w.heap.size w wr ∧ w.heap.size + 1 ≤ wr.heap.size) (fun _ s8 _ => n - (intOf s8).toNat)
  case atStart => exact ⟨0, Nat.zero_le _, rfl, ⟨by simp [Value.ownBlock], [], World.ownsRow_nil _ _ _ _, fun i hi => by omega⟩, Tb, hb0, hs0⟩
  case round =>
    clear Tb hb0 hs0
    obtain ⟨j, hj, rfl, L, Tb, hbel, hsr⟩ := hrel
    obtain ⟨o1, k1, rfl⟩ := L.form
    by_cases hlt : j < n
    · have hkI : (j : Int) < (n : Int) := by omega
      have hkI3 : (j : Int) * 3 = ((j * 3 : Nat) : Int) := by omega
      obtain ⟨zx1, zx2⟩ := HZX.out j hlt
      obtain ⟨zz1, zz2⟩ := HZZ.out j hlt
      rcases hx with h0 | ⟨xb, xo, rfl, helx⟩
      · omega
      rcases hz with h0 | ⟨zb, zo, rfl, helz⟩
      · omega
      obtain ⟨pX, aX, nX, cX, dX, mX, lX, x0, x1, x2, hX⟩ := helx j hlt
      obtain ⟨pZ, aZ, nZ, cZ, dZ, mZ, lZ, y0, y1, y2, hZ⟩ := helz j hlt
      have hxb := World.block_lt_of_cell? _ _ x0
      have hzb := World.block_lt_of_cell? _ _ y0
      have hxb' : xb < w.heap.size := hxb
      have hzb' : zb < w.heap.size := hzb
      replace x0 := kept_c hbel x0; replace x1 := kept_c hbel x1; replace x2 := kept_c hbel x2; replace y0 := kept_c hbel y0; replace y1 := kept_c hbel y1; replace y2 := kept_c hbel y2
      have t0 := Tb 0 _ rfl
      have t1 := Tb 1 _ rfl
      have t2 := Tb 2 _ rfl
      have htr := ht.below hbel
      replace hX := hX.below hbel
      replace hZ := hZ.below hbel
      have hrow : ∀ g, (Value.slice o1 j k1).ownBlock = some g → w.heap.size + 1 ≤ g ∧ g < wr.heap.size := fun g hg => L.lt g hg
      have HBX : ∀ w', Below wr.heap.size wr w' → (w'.cell? ⟨xb, xo + j * 3, none⟩ = some (.bool pX) ∧ w'.cell? ⟨xb, xo + j * 3 + 1, none⟩ = some (.slice aX nX cX) ∧ w'.cell? ⟨xb, xo + j * 3 + 2, none⟩ = some (.slice dX mX lX) ∧ w'.cell? ⟨zb, zo + j * 3, none⟩ = some (.bool pZ) ∧ w'.cell? ⟨zb, zo + j * 3 + 1, none⟩ = some (.slice aZ nZ cZ) ∧ w'.cell? ⟨zb, zo + j * 3 + 2, none⟩ = some (.slice dZ mZ lZ) ∧ w'.cell? ⟨w.heap.size, 0, none⟩ = some (.bool p) ∧ w'.cell? ⟨w.heap.size, 1, none⟩ = some (.slice a na ca) ∧ w'.cell? ⟨w.heap.size, 2, none⟩ = some (.slice d nd cd)) := fun w' h => ⟨kept_c h x0, kept_c h x1, kept_c h x2, kept_c h y0, kept_c h y1, kept_c h y2, kept_c h t0, kept_c h t1, kept_c h t2⟩
      clear helx helz hxb hzb
      go_wp2_with fail
      refine wp_region_noPanic (wp_region_guard (Till 14 14 (fun w' => w'.cell? ⟨xb, xo + j * 3, none⟩ = some (.bool pX) ∧ w'.cell? ⟨xb, xo + j * 3 + 1, none⟩ = some (.slice aX nX cX) ∧ w'.cell? ⟨xb, xo + j * 3 + 2, none⟩ = some (.slice dX mX lX) ∧ w'.cell? ⟨zb, zo + j * 3, none⟩ = some (.bool pZ) ∧ w'.cell? ⟨zb, zo + j * 3 + 1, none⟩ = some (.slice aZ nZ cZ) ∧ w'.cell? ⟨zb, zo + j * 3 + 2, none⟩ = some (.slice dZ mZ lZ) ∧ w'.cell? ⟨w.heap.size, 0, none⟩ = some (.bool p) ∧ w'.cell? ⟨w.heap.size, 1, none⟩ = some (.slice a na ca) ∧ w'.cell? ⟨w.heap.size, 2, none⟩ = some (.slice d nd cd)) (fun _ => True)) (by as_aux_lemma => kernel_rfl) ?_)
      have hc0 : Below wr.heap.size wr wr.drew := bel_d1 _
      generalize wr.drew = z0 at *
      refine wpAnyG.take 0 (v := .slice o1 j k1) (by decide) (by as_aux_lemma => kernel_rfl) (fun _ _ _ h => h) 14 _ (by rfl) (till_ind (by decide) (by decide)) (fun L w' h1 h2 => h2.1 h1) (by as_aux_lemma => kernel_rfl) (by as_aux_lemma => kernel_rfl) (by as_aux_lemma => kernel_rfl) (by rfl) ?y0 ⟨fun _ => HBX _ hc0, fun _ => trivial⟩ (by rfl) ?_
      case y0 =>
        rintro w' ⟨q0, q1, q2, q3, q4, q5, q6, q7, q8⟩
        simp only [lgA, lgZ]
        go_simp
      simp only [lgA, lgZ, Act.put, lsA, lsZ, lsS]
      refine wpAnyG.take 1 (v := .slice (some ⟨xb, xo, none⟩) n xc) (by decide) (by as_aux_lemma => kernel_rfl) (fun _ _ _ h => h) 14 _ (by rfl) (till_ind (by decide) (by decide)) (fun L w' h1 h2 => h2.1 h1) (by as_aux_lemma => kernel_rfl) (by as_aux_lemma => kernel_rfl) (by as_aux_lemma => kernel_rfl) (by rfl) ?y1 ⟨fun _ => HBX _ hc0, fun _ => trivial⟩ (by rfl) ?_
      case y1 =>
        rintro w' ⟨q0, q1, q2, q3, q4, q5, q6, q7, q8⟩
        simp only [lgA, lgZ, lgS]
        go_simp
      simp only [lgA, lgZ, lgS, Act.put, lsA, lsZ, lsS]
      refine wpAnyG.take 2 (v := .int .i64 (j : Int)) (by decide) (by as_aux_lemma => kernel_rfl) (fun _ _ _ h => h) 14 _ (by rfl) (till_ind (by decide) (by decide)) (fun L w' h1 h2 => h2.1 h1) (by as_aux_lemma => kernel_rfl) (by as_aux_lemma => kernel_rfl) (by as_aux_lemma => kernel_rfl) (by rfl) ?y2 ⟨fun _ => HBX _ hc0, fun _ => trivial⟩ (by rfl) ?_
      case y2 =>
        rintro w' ⟨q0, q1, q2, q3, q4, q5, q6, q7, q8⟩
        simp only [lgA, lgZ, lgS]
        go_simp
      simp only [lgA, lgZ, lgS, Act.put, lsA, lsZ, lsS]
      refine wpAnyG.take 3 (v := .pointer (some ⟨xb, xo + j * 3, none⟩)) (by decide) (by as_aux_lemma => kernel_rfl) (fun _ _ _ h => h) 14 _ (by rfl) (till_ind (by decide) (by decide)) (fun L w' h1 h2 => h2.1 h1) (by as_aux_lemma => kernel_rfl) (by as_aux_lemma => kernel_rfl) (by as_aux_lemma => kernel_rfl) (by rfl) ?y3 ⟨fun _ => HBX _ hc0, fun _ => trivial⟩ (by rfl) ?_
      case y3 =>
        rintro w' ⟨q0, q1, q2, q3, q4, q5, q6, q7, q8⟩
        simp only [lgA, lgZ, lgS]
        go_simp
      simp only [lgA, lgZ, lgS, Act.put, lsA, lsZ, lsS]
      refine wpAnyG.take 4 (v := .agg #[.bool pX, .slice aX nX cX, .slice dX mX lX]) (by decide) (by as_aux_lemma => kernel_rfl) (fun _ _ _ h => h) 14 _ (by rfl) (till_ind (by decide) (by decide)) (fun L w' h1 h2 => h2.1 h1) (by as_aux_lemma => kernel_rfl) (by as_aux_lemma => kernel_rfl) (by as_aux_lemma => kernel_rfl) (by rfl) ?y4 ⟨fun _ => HBX _ hc0, fun _ => trivial⟩ (by rfl) ?_
      case y4 =>
        rintro w' ⟨q0, q1, q2, q3, q4, q5, q6, q7, q8⟩
        simp only [lgA, lgZ, lgS]
        go_simp
      simp only [lgA, lgZ, lgS, Act.put, lsA, lsZ, lsS]
      refine wpAnyG.take 5 (v := .agg #[.bool p, .slice a na ca, .slice d nd cd]) (by decide) (by as_aux_lemma => kernel_rfl) (fun _ _ _ h => h) 14 _ (by rfl) (till_ind (by decide) (by decide)) (fun L w' h1 h2 => h2.1 h1) (by as_aux_lemma => kernel_rfl) (by as_aux_lemma => kernel_rfl) (by as_aux_lemma => kernel_rfl) (by rfl) ?y5 ⟨fun _ => HBX _ hc0, fun _ => trivial⟩ (by rfl) ?_
      case y5 =>
        rintro w' ⟨q0, q1, q2, q3, q4, q5, q6, q7, q8⟩
        simp only [lgA, lgZ, lgS]
        go_simp
      simp only [lgA, lgZ, lgS, Act.put, lsA, lsZ, lsS]
      refine wpAnyG.take 6 (v := .slice (some ⟨zb, zo, none⟩) n zc) (by decide) (by as_aux_lemma => kernel_rfl) (fun _ _ _ h => h) 14 _ (by rfl) (till_ind (by decide) (by decide)) (fun L w' h1 h2 => h2.1 h1) (by as_aux_lemma => kernel_rfl) (by as_aux_lemma => kernel_rfl) (by as_aux_lemma => kernel_rfl) (by rfl) ?y6 ⟨fun _ => HBX _ hc0, fun _ => trivial⟩ (by rfl) ?_
      case y6 =>
        rintro w' ⟨q0, q1, q2, q3, q4, q5, q6, q7, q8⟩
        simp only [lgA, lgZ, lgS]
        go_simp
      simp only [lgA, lgZ, lgS, Act.put, lsA, lsZ, lsS]
      refine wpAnyG.take 7 (v := .int .i64 (j : Int)) (by decide) (by as_aux_lemma => kernel_rfl) (fun _ _ _ h => h) 14 _ (by rfl) (till_ind (by decide) (by decide)) (fun L w' h1 h2 => h2.1 h1) (by as_aux_lemma => kernel_rfl) (by as_aux_lemma => kernel_rfl) (by as_aux_lemma => kernel_rfl) (by rfl) ?y7 ⟨fun _ => HBX _ hc0, fun _ => trivial⟩ (by rfl) ?_
      case y7 =>
        rintro w' ⟨q0, q1, q2, q3, q4, q5, q6, q7, q8⟩
        simp only [lgA, lgZ, lgS]
        go_simp
      simp only [lgA, lgZ, lgS, Act.put, lsA, lsZ, lsS]
      refine wpAnyG.take 8 (v := .pointer (some ⟨zb, zo + j * 3, none⟩)) (by decide) (by as_aux_lemma => kernel_rfl) (fun _ _ _ h => h) 14 _ (by rfl) (till_ind (by decide) (by decide)) (fun L w' h1 h2 => h2.1 h1) (by as_aux_lemma => kernel_rfl) (by as_aux_lemma => kernel_rfl) (by as_aux_lemma => kernel_rfl) (by rfl) ?y8 ⟨fun _ => HBX _ hc0, fun _ => trivial⟩ (by rfl) ?_
      case y8 =>
        rintro w' ⟨q0, q1, q2, q3, q4, q5, q6, q7, q8⟩
        simp only [lgA, lgZ, lgS]
        go_simp
      simp only [lgA, lgZ, lgS, Act.put, lsA, lsZ, lsS]
      refine wpAnyG.take 9 (v := .agg #[.bool pZ, .slice aZ nZ cZ, .slice dZ mZ lZ]) (by decide) (by as_aux_lemma => kernel_rfl) (fun _ _ _ h => h) 14 _ (by rfl) (till_ind (by decide) (by decide)) (fun L w' h1 h2 => h2.1 h1) (by as_aux_lemma => kernel_rfl) (by as_aux_lemma => kernel_rfl) (by as_aux_lemma => kernel_rfl) (by rfl) ?y9 ⟨fun _ => HBX _ hc0, fun _ => trivial⟩ (by rfl) ?_
      case y9 =>
        rintro w' ⟨q0, q1, q2, q3, q4, q5, q6, q7, q8⟩
        simp only [lgA, lgZ, lgS]
        go_simp
      simp only [lgA, lgZ, lgS, Act.put, lsA, lsZ, lsS]
      refine wpAnyG.one 10 (by as_aux_lemma => kernel_rfl) (by decide) (by rfl) (fun K hK => ?_)
      simp only [lgA, lgZ, lgS]
      go_simp
      refine (mulD z0 (htr.below hc0) (hZ.below hc0) (by omega) (by omega) (by omega)).mono ?_
      rintro e z1 ⟨f1, c1, n1, i1, d1, m1, l1, rfl, G1, hk1⟩
      have hc1 : Below wr.heap.size wr z1 := bel_tr hc0 hk1
      dsimp only
      refine hK _ _ ⟨fun _ => HBX _ hc1, fun _ => trivial⟩ ?_
      clear hK K
      refine wpAnyG.one 11 (by as_aux_lemma => kernel_rfl) (by decide) (by rfl) (fun K hK => ?_)
      simp only [lgA, lgZ, lgS]
      go_simp
      refine (addD z1 (hX.below hc1) G1.tr (by omega) (by omega) (by omega)).mono ?_
      rintro e z2 ⟨f2, c2, n2, i2, d2, m2, l2, rfl, G2, hk2⟩
      have hc2 : Below wr.heap.size wr z2 := bel_tr hc1 hk2
      dsimp only
      refine hK _ _ ⟨fun _ => HBX _ hc2, fun _ => trivial⟩ ?_
      clear hK K
      refine wpAnyG.one 12 (by as_aux_lemma => kernel_rfl) (by decide) (by rfl) (fun K hK => ?_)
      simp only [lgA, lgZ, lgS]
      go_simp
      have hy : Below wr.heap.size wr (z2.alloc (.cells #[.bool f2, .slice c2 n2 i2, .slice d2 m2 l2] 27)) := bel_a hc2
      refine hK _ _ ⟨fun _ => HBX _ hy, fun _ => trivial⟩ ?_
      clear hK K
      refine wpAnyG.one 13 (by as_aux_lemma => kernel_rfl) (by decide) (by rfl) (fun K hK => ?_)
      simp only [lgA, lgZ, lgS]
      have hsz1 : (z2.alloc (.cells #[.bool f2, .slice c2 n2 i2, .slice d2 m2 l2] 27)).heap.size = z2.heap.size + 1 := by simp
      have hs2 := hc2.size
      have hs1 := hc1.size
      have GE : EX (z2.alloc (.cells #[.bool f2, .slice c2 n2 i2, .slice d2 m2 l2] 27)) (w.heap.size + 1) w.heap.size f2 c2 n2 i2 d2 m2 l2 (X j + t * Z j) (Kx + Kt + Kz + 1) := .inl (((((G2.below (bel_d0 _ _)).mono (B' := w.heap.size + 1) (by omega)).le (by omega)).gx (R := w.heap.size) (.inl (by omega))))
      refine wp_appendX _ _ _ rfl (w.heap.size + 1) w.heap.size (.slice o1 j k1) j (fun j => X j + t * Z j) (Kx + Kt + Kz + 1) rfl (L.below (by omega) hy) z2.heap.size _ rfl f2 c2 n2 i2 d2 m2 l2 _ (cell_new3 (by rfl)) GE (by omega) (by omega) (z2.heap.size + 1) (by simp) (by omega) ?_
      intro gN capN w5 SN hg hat hlt5
      refine hK _ _ ⟨fun _ => ⟨keep_ne hg (kept_c hy x0) (fun e => by have := hrow _ e; simp at this; omega), keep_ne hg (kept_c hy x1) (fun e => by have := hrow _ e; simp at this; omega), keep_ne hg (kept_c hy x2) (fun e => by have := hrow _ e; simp at this; omega), keep_ne hg (kept_c hy y0) (fun e => by have := hrow _ e; simp at this; omega), keep_ne hg (kept_c hy y1) (fun e => by have := hrow _ e; simp at this; omega), keep_ne hg (kept_c hy y2) (fun e => by have := hrow _ e; simp at this; omega), keep_ne hg (kept_c hy t0) (fun e => by have := hrow _ e; simp at this; omega), keep_ne hg (kept_c hy t1) (fun e => by have := hrow _ e; simp at this; omega), keep_ne hg (kept_c hy t2) (fun e => by have := hrow _ e; simp at this; omega)⟩, fun _ => trivial⟩ ?_
      clear hK K
      refine wpAnyG.one 14 (by as_aux_lemma => kernel_rfl) (by decide) (by rfl) (fun K hK => ?_)
      simp only [lgA, lgZ, lgS]
      go_simp
      refine hK _ _ ⟨fun h => absurd h (by decide), fun _ => trivial⟩ ?_
      clear hK K
      refine wpAnyG.done (by as_aux_lemma => kernel_rfl) (NoPanic.normal ?_)
      have hbD := bel_tr hbel hy
      have hbN : Below w.heap.size w w5 := hbD.trans ((grown_below (B := w.heap.size + 1) hg (by omega) (fun k hk => (hrow k hk).1)).mono (by omega))
      have hs5 : w.heap.size + 1 ≤ w5.heap.size := by have := hg.size; omega
      have TbN : BoxC w5 w.heap.size [.bool p, .slice a na ca, .slice d nd cd] := fun i u hu => keep_ne hg (Tb.below hy i u hu) (fun e => by have := hrow _ e; simp at this; omega)
      have LN : MX w5 (w.heap.size + 1) w.heap.size (.slice (some ⟨gN, 0, none⟩) (j + 1) capN) (j + 1) (fun j => X j + t * Z j) (Kx + Kt + Kz + 1) := by
        have e : (fun i => if i < j then X i + t * Z i else X j + t * Z j) = (fun i => if i < j then X i + t * Z i else X j + t * Z j) := rfl
        obtain ⟨h1, vs, h2, h3⟩ := SN
        refine ⟨h1, vs, h2, fun i hi => ?_⟩
        have h4 := h3 i hi
        by_cases hij : i < j
        · simpa only [hij, if_true] using h4
        · obtain rfl : i = j := by omega
          simpa only [Nat.lt_irrefl, if_false] using h4
      clear HBX hg hat hlt5 SN GE G1 G2 hy hc0 hc1 hc2 hk1 hk2 x0 x1 x2 y0 y1 y2 t0 t1 t2 L Tb hbel hbD htr hX hZ
      go_wp2
      go_roundw
      case rel => first | exact ⟨j + 1, by omega, by go_num, LN, TbN, hbN, hs5⟩ | ((repeat apply Exists.intro); refine ⟨?_, rfl⟩; exact ⟨j + 1, by omega, by go_num, LN, TbN, hbN, hs5⟩)
      case measure => simp [intOf]; omega
    · have hkI : ¬ (j : Int) < (n : Int) := by omega
      obtain rfl : j = n := by omega
      have hL := L.lq
      clear L Tb
      go_wp2
      go_ret
      exact ⟨_, ⟨_, rfl⟩, hL, hbel⟩
end Go.Proofs.YtcocjcjjlgcbcaaGreatDoor

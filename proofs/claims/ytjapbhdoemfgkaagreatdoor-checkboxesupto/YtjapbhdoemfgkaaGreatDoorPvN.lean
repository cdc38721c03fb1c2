import Derived.Test.YtjapbhdoemfgkaaGreatDoorPvM
import Derived.Test.YtjapbhdoemfgkaaGreatDoorPvI
namespace Go.Proofs.YtjapbhdoemfgkaaGreatDoor
open Go.RowKit

theorem InfR.up {P : Prob} {C : Crt} {eS eB : Value} {w w0 w' : World} {e : Ending} (h : InfR P C eS eB w0 e w') (hb : Below w.heap.size w w0) : InfR P C eS eB w e w' := ⟨bel_tr hb h.1, h.2⟩
theorem InfR.val {P : Prob} {C : Crt} {eS eB : Value} {w w' : World} {e : Ending} (h : InfR P C eS eB w e w') : ∃ v, e = .returned v := by
  rcases h.2 with ⟨_, h⟩ | ⟨_, ⟨_, h⟩ | ⟨_, ⟨_, h⟩ | ⟨_, _, h⟩⟩⟩ <;> exact ⟨_, h⟩
theorem UnbR.up {P : Prob} {C : Crt} {eS eP eR : Value} {w w0 w' : World} {e : Ending} (h : UnbR P C eS eP eR w0 e w') (hb : Below w.heap.size w w0) : UnbR P C eS eP eR w e w' := ⟨bel_tr hb h.1, h.2⟩
theorem UnbR.val {P : Prob} {C : Crt} {eS eP eR : Value} {w w' : World} {e : Ending} (h : UnbR P C eS eP eR w e w') : ∃ v, e = .returned v := by
  rcases h.2 with ⟨_, h⟩ | ⟨_, _, ⟨_, h⟩ | ⟨_, ⟨_, h⟩ | ⟨_, _, h⟩⟩⟩ <;> exact ⟨_, h⟩
set_option maxRecDepth 100000 in
set_option maxHeartbeats 4000000 in
theorem chk2 (P : Prob) (C : Crt) (w : World) (hv : C.vd = 2) (hP : PQ w P) (hC : CQ w C) (hK : P.K + C.K ≤ 1048576) (hT : TB w) {eS eP eV eR eD : Value} {pB : Addr} (EH : EE w eS eP eV (.iface 131 (.pointer (some pB))) eR eD) :
    Calls Tryz.prog 6 #[P.val, C.val] w fun e w' => InfR P C eS (.iface 131 (.pointer (some pB))) w e w' := by
  have HV : Hid (C.vd = 2) := hv
  clear hv
  have HQ := fun w1 (hb : Below w.heap.size w w1) => infQ P C w1 (hP.below hb) (hC.below hb) hK (hT.below hb) (EH.below hb)
  unfold Prob.val Crt.val at *
  rw [HV.out] at HQ ⊢
  have Pb := box_new w #[.bool P.mx, .string P.nm, .bool P.p, .slice P.a P.na P.ca, .slice P.d P.nd P.cd, .slice P.va P.vn P.vc, .slice P.ra P.rn P.rc] 32
  have hz0 := bel_d0 w (.cells #[.bool P.mx, .string P.nm, .bool P.p, .slice P.a P.na P.ca, .slice P.d P.nd P.cd, .slice P.va P.vn P.vc, .slice P.ra P.rn P.rc] 32)
  have hs0 : (w.alloc (.cells #[.bool P.mx, .string P.nm, .bool P.p, .slice P.a P.na P.ca, .slice P.d P.nd P.cd, .slice P.va P.vn P.vc, .slice P.ra P.rn P.rc] 32)).heap.size = w.heap.size + 1 := by simp
  have Cb := box_new (w.alloc (.cells #[.bool P.mx, .string P.nm, .bool P.p, .slice P.a P.na P.ca, .slice P.d P.nd P.cd, .slice P.va P.vn P.vc, .slice P.ra P.rn P.rc] 32)) #[.int .i64 2, .bool C.p, .slice C.a C.na C.ca, .slice C.d C.nd C.cd, .slice C.xa C.xn C.xc, .slice C.ya C.yn C.yc, .slice C.za C.zn C.zc] 35
  have hz1 := bel_d0 (w.alloc (.cells #[.bool P.mx, .string P.nm, .bool P.p, .slice P.a P.na P.ca, .slice P.d P.nd P.cd, .slice P.va P.vn P.vc, .slice P.ra P.rn P.rc] 32)) (.cells #[.int .i64 2, .bool C.p, .slice C.a C.na C.ca, .slice C.d C.nd C.cd, .slice C.xa C.xn C.xc, .slice C.ya C.yn C.yc, .slice C.za C.zn C.zc] 35)
  rw [hs0] at Cb
  replace Pb := Pb.below hz1
  have hb0 := bel_tr hz0 hz1
  clear hz0 hz1 hs0
  have p0 := Pb 0 _ rfl; have p1 := Pb 1 _ rfl; have p2 := Pb 2 _ rfl; have p3 := Pb 3 _ rfl; have p4 := Pb 4 _ rfl; have p5 := Pb 5 _ rfl; have p6 := Pb 6 _ rfl
  have c0 := Cb 0 _ rfl; have c1 := Cb 1 _ rfl; have c2 := Cb 2 _ rfl; have c3 := Cb 3 _ rfl; have c4 := Cb 4 _ rfl; have c5 := Cb 5 _ rfl; have c6 := Cb 6 _ rfl
  go_enter Tryz.func6, Tryz.ntmps6
  go_wp2_with fail
  clear p0 p1 p2 p3 p4 p5 p6 c0 c1 c2 c3 c4 c5 c6
  generalize (w.alloc (.cells #[.bool P.mx, .string P.nm, .bool P.p, .slice P.a P.na P.ca, .slice P.d P.nd P.cd, .slice P.va P.vn P.vc, .slice P.ra P.rn P.rc] 32)).alloc (.cells #[.int .i64 2, .bool C.p, .slice C.a C.na C.ca, .slice C.d C.nd C.cd, .slice C.xa C.xn C.xc, .slice C.ya C.yn C.yc, .slice C.za C.zn C.zc] 35) = W0 at *
  refine (HQ W0 hb0).mono ?_
  intro e w1 HR
  replace HR := HR.up hb0
  clear Pb Cb hb0 HQ
  obtain ⟨v, rfl⟩ := HR.val
  go_wp2
  go_ret
  exact HR
end Go.Proofs.YtjapbhdoemfgkaaGreatDoor

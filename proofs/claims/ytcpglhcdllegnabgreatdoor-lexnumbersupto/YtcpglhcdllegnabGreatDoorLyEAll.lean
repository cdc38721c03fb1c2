import Derived.Test.YtcpglhcdllegnabGreatDoorLyAAll
import Derived.LaidEql
import Derived.Stop.Asserts
import Derived.RowKitTokens
namespace Go.Proofs.YtcpglhcdllegnabGreatDoor
open Go.RowKit Go.Shelf Go.Extern.Stop Go.Stop Go.Extern

-- the entries of reflectlite that answer alike in every world
theorem rV56 (p : Addr) (w : World) : (ReflectliteValue.unpack (.iface 73 (.pointer (some p)))).run Tryz.prog w = .ok (.agg #[.pointer (some ⟨16, 73, none⟩), .pointer (some ⟨w.heap.size, 0, none⟩), .int .u64 150]) (w.alloc (.cells #[.pointer (some p)] 73)) := by kernel_rfl
theorem rV54 (p : Addr) (w : World) : (ReflectliteValue.unpack (.iface 71 (.pointer (some p)))).run Tryz.prog w = .ok (.agg #[.pointer (some ⟨16, 71, none⟩), .pointer (some ⟨w.heap.size, 0, none⟩), .int .u64 150]) (w.alloc (.cells #[.pointer (some p)] 71)) := by kernel_rfl
theorem rT56 (p : Addr) (w : World) : (ReflectliteValue.methodAny (ReflectliteValue.valueError "reflectlite.Value.Type" 0) (fun t _ _ _ => ReflectliteType.toType t) #[.agg #[.pointer (some ⟨16, 73, none⟩), .pointer (some p), .int .u64 150]]).run Tryz.prog w = .ok (.iface 122 (.agg #[.pointer (some ⟨16, 73, none⟩)])) w := by kernel_rfl
theorem rM (v : Value) (w : World) : (Go.method 367 122 (.agg #[v]) "Kind").run Tryz.prog w = .ok (192, v) w ∧ (Go.method 367 122 (.agg #[v]) "Elem").run Tryz.prog w = .ok (203, .agg #[v]) w ∧ (Go.method 367 122 (.agg #[v]) "Implements").run Tryz.prog w = .ok (204, .agg #[v]) w ∧ (Go.method 367 122 (.agg #[v]) "AssignableTo").run Tryz.prog w = .ok (201, .agg #[v]) w :=
  ⟨by kernel_rfl, by kernel_rfl, by kernel_rfl, by kernel_rfl⟩
theorem rK (w : World) : ((ReflectliteType.abiMethod fun t => Functor.map (fun a : Nat => Value.int IntKind.u8 (a : Int)) (Rtype.kind t)) #[.pointer (some ⟨16, 73, none⟩)]).run Tryz.prog w = .ok (.int .u8 22) w ∧ ((ReflectliteType.abiMethod fun t => Functor.map (fun a : Nat => Value.int IntKind.u8 (a : Int)) (Rtype.kind t)) #[.pointer (some ⟨16, 71, none⟩)]).run Tryz.prog w = .ok (.int .u8 22) w := ⟨by kernel_rfl, by kernel_rfl⟩
theorem rE (w : World) : (ReflectliteType.method ReflectliteType.elem #[.agg #[.pointer (some ⟨16, 73, none⟩)]]).run Tryz.prog w = .ok (.iface 122 (.agg #[.pointer (some ⟨16, 71, none⟩)])) w := by kernel_rfl
theorem rI (w : World) : (ReflectliteType.relation "Implements" ReflectliteType.implements_ #[.agg #[.pointer (some ⟨16, 71, none⟩)], .iface 122 (.agg #[.pointer (some ⟨16, 33, none⟩)])]).run Tryz.prog w = .ok (.bool true) w := by kernel_rfl
theorem rO (v : Value) (w : World) : (ReflectliteType.typeOf #[.iface 71 v]).run Tryz.prog w = .ok (.iface 122 (.agg #[.pointer (some ⟨16, 71, none⟩)])) w := by kernel_rfl
theorem rA (w : World) : (ReflectliteType.relation "AssignableTo" ReflectliteType.assignableTo #[.agg #[.pointer (some ⟨16, 71, none⟩)], .iface 122 (.agg #[.pointer (some ⟨16, 71, none⟩)])]).run Tryz.prog w = .ok (.bool true) w := by kernel_rfl
theorem rPa (p : Addr) (w : World) : (ReflectliteValue.parts (.agg #[.pointer (some ⟨16, 73, none⟩), .pointer (some p), .int .u64 150])).run Tryz.prog w = .ok (some (73, p, 150)) w := by kernel_rfl
theorem rPb (p : Addr) (w : World) : (ReflectliteValue.parts (.agg #[.pointer (some ⟨16, 71, none⟩), .pointer (some p), .int .u64 406])).run Tryz.prog w = .ok (some (71, p, 406)) w := by kernel_rfl
theorem rPc (p : Addr) (w : World) : (ReflectliteValue.parts (.agg #[.pointer (some ⟨16, 71, none⟩), .pointer (some p), .int .u64 150])).run Tryz.prog w = .ok (some (71, p, 150)) w := by kernel_rfl
theorem rEl (w : World) : (Rtype.elem? 73).run Tryz.prog w = .ok (some 71) w := by kernel_rfl
theorem rMk (p : Addr) (w : World) : (ReflectliteValue.mk 71 p ReflectliteValue.flagAddr).run Tryz.prog w = .ok (.agg #[.pointer (some ⟨16, 71, none⟩), .pointer (some p), .int .u64 406]) w := by kernel_rfl
theorem rDi (w : World) : (Rtype.directlyAssignable 71 71).run Tryz.prog w = .ok true w := by kernel_rfl
theorem rSz (w : World) : (sizeOf 71).run Tryz.prog w = .ok 1 w := by kernel_rfl
end Go.Proofs.YtcpglhcdllegnabGreatDoor

namespace Go.Proofs.YtcpglhcdllegnabGreatDoor
open Go.RowKit Go.Shelf Go.Extern.Stop Go.Stop Go.Extern

theorem mth (z : Sem Value) (f : TypeId → Addr → Nat → Nat → Sem Value) (v : Value) : ReflectliteValue.method z f #[v] = (do match ← ReflectliteValue.parts v with | none => z | some (t, a, fl) => f t a fl (fl % 32)) := rfl
/-- A pointer's Value that isn't nil. -/
theorem rNil (a p : Addr) (W : World) (ha : W.cell? a = some (.pointer (some p))) : (ReflectliteValue.method (ReflectliteValue.valueError "reflectlite.Value.IsNil" 0) ReflectliteValue.isNil #[.agg #[.pointer (some ⟨16, 73, none⟩), .pointer (some a), .int .u64 150]]).run Tryz.prog W = .ok (.bool false) W := by
  rw [mth]
  simp only [Sem.run_bind, rPa, Result.andThen]
  simp [ReflectliteValue.isNil, loadVar, isAgg, underlying, Tryz.underlying73, ha, Result.andThen]
/-- What it points to. -/
theorem rElem (a p : Addr) (W : World) (ha : W.cell? a = some (.pointer (some p))) : (ReflectliteValue.method (ReflectliteValue.valueError "reflectlite.Value.Elem" 0) ReflectliteValue.elem #[.agg #[.pointer (some ⟨16, 73, none⟩), .pointer (some a), .int .u64 150]]).run Tryz.prog W = .ok (.agg #[.pointer (some ⟨16, 71, none⟩), .pointer (some p), .int .u64 406]) W := by
  rw [mth]
  simp only [Sem.run_bind, rPa, Result.andThen]
  simp [ReflectliteValue.elem, loadVar, isAgg, underlying, Tryz.underlying73, ha, Result.andThen, rEl, rMk]
/-- It is set. -/
theorem rSet (p b e : Addr) (old : Value) (W : World) (hb : W.cell? b = some (.pointer (some e))) (ht : W.cell? p = some old) (hf : W.frozen? p = false) :
    (ReflectliteValue.set #[.agg #[.pointer (some ⟨16, 71, none⟩), .pointer (some p), .int .u64 406], .agg #[.pointer (some ⟨16, 71, none⟩), .pointer (some b), .int .u64 150]]).run Tryz.prog W = .ok (.tuple #[]) (W.setCell p (.pointer (some e))) := by
  have ok2 : ∀ {α β : Type} (x : Sem α) (f : α → Sem β) (v : α) (w' : World), x.run Tryz.prog W = .ok v w' → (x >>= f).run Tryz.prog W = (f v).run Tryz.prog w' := fun x f v w' h => by rw [Sem.run_bind, h]; rfl
  have hld : (loadVar 71 b).run Tryz.prog W = .ok (.pointer (some e)) W := by simp [loadVar, isAgg, underlying, Tryz.underlying71, hb, Result.andThen]
  have hst : (storeVar 71 p (.pointer (some e))).run Tryz.prog W = .ok () (W.setCell p (.pointer (some e))) := by
    simp [storeVar, Value.cells, storeCells, Addr.add, Result.andThen]
    rw [run_store Tryz.prog W p _ _ (by rfl)]
    simp [ht, hf]
  refine (ok2 (ReflectliteValue.parts _) _ _ _ (rPb p W)).trans ?_
  refine (ok2 (ReflectliteValue.parts _) _ _ _ (rPc b W)).trans ?_
  refine (ok2 (loadVar 71 b) _ _ _ hld).trans ?_
  refine (ok2 (Rtype.directlyAssignable 71 71) _ _ _ (rDi W)).trans ?_
  refine (ok2 (storeVar 71 p _) _ _ _ hst).trans ?_
  rfl
set_option maxRecDepth 100000 in
set_option maxHeartbeats 4000000 in
/-- errors.As of a fault -/
theorem asQ (e p : Addr) (old : Value) (w : World) (hg : w.cell? ⟨1, 0, none⟩ = some (.iface 122 (.agg #[.pointer (some ⟨16, 33, none⟩)]))) (hp : w.cell? p = some old) (hf : w.frozen? p = false) :
    Calls Tryz.prog 32 #[.iface 71 (.pointer (some e)), .iface 73 (.pointer (some p))] w fun v w' => v = .returned (.bool true) ∧ ∃ W, Below w.heap.size w W ∧ w' = W.setCell p (.pointer (some e)) := by
  obtain ⟨W1, hW1⟩ : ∃ W1, W1 = (w.alloc (.cells #[.pointer (some p)] 73)) := ⟨_, rfl⟩
  have x0 := @run_callFunc_extern Tryz.prog 51 _ (fun args => ReflectliteValue.unpack (args.getD 0 (.tuple #[]))) Tryz.func51 (by kernel_rfl) (by kernel_rfl) (by kernel_rfl) (by kernel_rfl)
  have x1 := @run_callFunc_extern Tryz.prog 52 _ (ReflectliteValue.methodAny (ReflectliteValue.valueError "reflectlite.Value.Type" 0) (fun t _ _ _ => ReflectliteType.toType t)) Tryz.func52 (by kernel_rfl) (by kernel_rfl) (by kernel_rfl) (by kernel_rfl)
  have x2 := @run_callFunc_extern Tryz.prog 53 _ (ReflectliteValue.method (ReflectliteValue.valueError "reflectlite.Value.IsNil" 0) ReflectliteValue.isNil) Tryz.func53 (by kernel_rfl) (by kernel_rfl) (by kernel_rfl) (by kernel_rfl)
  have x3 := @run_callFunc_extern Tryz.prog 192 _ (ReflectliteType.abiMethod fun t => do pure (.int .u8 (← Rtype.kind t))) Tryz.func192 (by kernel_rfl) (by kernel_rfl) (by kernel_rfl) (by kernel_rfl)
  have x4 := @run_callFunc_extern Tryz.prog 203 _ (ReflectliteType.method ReflectliteType.elem) Tryz.func203 (by kernel_rfl) (by kernel_rfl) (by kernel_rfl) (by kernel_rfl)
  have x5 := @run_callFunc_extern Tryz.prog 204 _ (ReflectliteType.relation "Implements" ReflectliteType.implements_) Tryz.func204 (by kernel_rfl) (by kernel_rfl) (by kernel_rfl) (by kernel_rfl)
  have x6 := @run_callFunc_extern Tryz.prog 72 _ ReflectliteType.typeOf Tryz.func72 (by kernel_rfl) (by kernel_rfl) (by kernel_rfl) (by kernel_rfl)
  have x7 := @run_callFunc_extern Tryz.prog 201 _ (ReflectliteType.relation "AssignableTo" ReflectliteType.assignableTo) Tryz.func201 (by kernel_rfl) (by kernel_rfl) (by kernel_rfl) (by kernel_rfl)
  have x8 := @run_callFunc_extern Tryz.prog 73 _ (ReflectliteValue.method (ReflectliteValue.valueError "reflectlite.Value.Elem" 0) ReflectliteValue.elem) Tryz.func73 (by kernel_rfl) (by kernel_rfl) (by kernel_rfl) (by kernel_rfl)
  have x9 := @run_callFunc_extern Tryz.prog 74 _ ReflectliteValue.set Tryz.func74 (by kernel_rfl) (by kernel_rfl) (by kernel_rfl) (by kernel_rfl)
  have mK := fun v u => (rM v u).1
  have mE := fun v u => (rM v u).2.1
  have mI := fun v u => (rM v u).2.2.1
  have mA := fun v u => (rM v u).2.2.2
  have k1 := fun u => (rK u).1
  have k2 := fun u => (rK u).2
  have v1 := rV56
  have v2 := rV54
  have t1 := rT56
  have e1 := rE
  have i1 := rI
  have o1 := rO
  have a1 := rA
  have hgl := World.block_lt_of_cell? _ _ hg
  have hpl := World.block_lt_of_cell? _ _ hp
  have n1 := rNil ⟨w.heap.size, 0, none⟩ p ((w.alloc (.cells #[.pointer (some p)] 73)).alloc (.cells #[.pointer (some ⟨16, 73, none⟩), .pointer (some ⟨w.heap.size, 0, none⟩), .int .u64 150] 96)) (by simp)
  have hg2 : ((w.alloc (.cells #[.pointer (some p)] 73)).alloc (.cells #[.pointer (some ⟨16, 73, none⟩), .pointer (some ⟨w.heap.size, 0, none⟩), .int .u64 150] 96)).cell? ⟨1, 0, none⟩ = some (.iface 122 (.agg #[.pointer (some ⟨16, 33, none⟩)])) := by
    rw [World.cell?_alloc_lt _ _ _ (by rw [World.size_alloc]; exact Nat.lt_succ_of_lt hgl), World.cell?_alloc_lt _ _ _ hgl]; exact hg
  clear hW1 W1
  go_enter Tryz.func32, Tryz.ntmps32
  go_wp2
  refine wp_loop_rounds 1 ?_
  rw [rounds_succ]
  have el := rElem ⟨w.heap.size, 0, none⟩ p (((w.alloc (.cells #[.pointer (some p)] 73)).alloc (.cells #[.pointer (some ⟨16, 73, none⟩), .pointer (some ⟨w.heap.size, 0, none⟩), .int .u64 150] 96)).alloc (.cells #[.pointer (some ⟨16, 73, none⟩), .pointer (some ⟨w.heap.size, 0, none⟩), .int .u64 150] 96)) (by rw [World.cell?_alloc_lt _ _ ⟨w.heap.size, 0, none⟩ (by simp; omega)]; simp)
  have st := rSet p ⟨w.heap.size + 1 + 1 + 1, 0, none⟩ e old ((((w.alloc (.cells #[.pointer (some p)] 73)).alloc (.cells #[.pointer (some ⟨16, 73, none⟩), .pointer (some ⟨w.heap.size, 0, none⟩), .int .u64 150] 96)).alloc (.cells #[.pointer (some ⟨16, 73, none⟩), .pointer (some ⟨w.heap.size, 0, none⟩), .int .u64 150] 96)).alloc (.cells #[.pointer (some e)] 71)) (by rw [World.cell?_alloc_at _ _ _ _ (by simp)]; rfl)
    (by rw [World.cell?_alloc_lt _ _ p (by simp; omega), World.cell?_alloc_lt _ _ p (by simp; omega), World.cell?_alloc_lt _ _ p (by simp; omega), World.cell?_alloc_lt _ _ p hpl]; exact hp)
    (by rw [World.frozen?_alloc_old _ _ p (by simp; omega), World.frozen?_alloc_old _ _ p (by simp; omega), World.frozen?_alloc_old _ _ p (by simp; omega), World.frozen?_alloc_old _ _ p (Nat.ne_of_lt hpl)]; exact hf)
  go_wp2
  go_ret
  exact ⟨rfl, _, (((((Below.refl _ w).alloc (Nat.le_refl _) _).alloc (by simp) _).alloc (by simp; omega) _).alloc (by simp; omega) _), rfl⟩
end Go.Proofs.YtcpglhcdllegnabGreatDoor

namespace Go.Proofs.YtcpglhcdllegnabGreatDoor
open Go.RowKit Go.Shelf

set_option maxRecDepth 100000 in
set_option maxHeartbeats 4000000 in
/-- law5.place of a fault -/
theorem placeQ (F : Nat) (l c : Int) (q : Addr) (w : World) (hF : Rw 75 w F #[.int .i64 l, .int .i64 c, .iface 238 (.pointer (some q))]) (hg : w.cell? ⟨1, 0, none⟩ = some (.iface 122 (.agg #[.pointer (some ⟨16, 33, none⟩)]))) :
    Calls Tryz.prog 12 #[.iface 71 (.pointer (some ⟨F, 0, none⟩))] w fun e w' => e = .returned (.tuple #[.int .i64 l, .int .i64 c, .iface 238 (.pointer (some q))]) ∧ Below w.heap.size w w' := by
  have B0 := Rw.new 71 w #[.pointer none]
  have hb0 := bel_d0 w (.cells #[.pointer none] 71)
  have hF1 := hF.alloc (.cells #[.pointer none] 71)
  have hFw := hF.lt
  have hgl := World.block_lt_of_cell? _ _ hg
  have hg1 : (w.alloc (.cells #[.pointer none] 71)).cell? ⟨1, 0, none⟩ = some (.iface 122 (.agg #[.pointer (some ⟨16, 33, none⟩)])) := by
    rw [World.cell?_alloc_lt _ _ _ hgl]; exact hg
  have HA := asQ ⟨F, 0, none⟩ ⟨w.heap.size, 0, none⟩ (.pointer none) _ hg1 (B0.cell 0) (B0.frozen 0)
  clear hg hg1 hF
  go_enter Tryz.func12, Tryz.ntmps12
  go_wp2_with fail
  generalize w.alloc (.cells #[.pointer none] 71) = W0 at *
  refine HA.mono ?_
  rintro e w1 ⟨rfl, W, hbW, rfl⟩
  have B1 := B0.below hbW
  have hF2 := hF1.below hbW
  obtain ⟨B2, O⟩ := B1.cellset 0 (.pointer (some ⟨F, 0, none⟩))
  have hF3 := hF2.off O (by omega)
  have hb3 := (bel_tr hb0 hbW).trans (O.below (B := w.heap.size) (Nat.le_refl _))
  have B3 : Rw 71 (W.setCell ⟨w.heap.size, 0, none⟩ (.pointer (some ⟨F, 0, none⟩))) w.heap.size #[.pointer (some ⟨F, 0, none⟩)] := B2
  clear HA B0 B1 B2 hF1 hF2 hbW hb0 O
  generalize W.setCell ⟨w.heap.size, 0, none⟩ (.pointer (some ⟨F, 0, none⟩)) = W1 at *
  have c0 : W1.cell? ⟨w.heap.size, 0, none⟩ = some (.pointer (some ⟨F, 0, none⟩)) := B3.cell 0
  have f0 : W1.cell? ⟨F, 0, none⟩ = some (.int .i64 l) := hF3.cell 0
  have f1 : W1.cell? ⟨F, 1, none⟩ = some (.int .i64 c) := hF3.cell 1
  have f2 : W1.cell? ⟨F, 2, none⟩ = some (.iface 238 (.pointer (some q))) := hF3.cell 2
  clear B3 hF3
  go_wp2_with fail
  go_region_held3 (fun w' => w'.cell? ⟨w.heap.size, 0, none⟩ = some (.pointer (some ⟨F, 0, none⟩)) ∧ w'.cell? ⟨F, 0, none⟩ = some (.int .i64 l) ∧ w'.cell? ⟨F, 1, none⟩ = some (.int .i64 c) ∧ w'.cell? ⟨F, 2, none⟩ = some (.iface 238 (.pointer (some q))))
    (first | exact ⟨c0, f0, f1, f2⟩ | (refine ⟨?_, ?_, ?_, ?_⟩ <;> simpa using (by assumption)))
    (fail)
  go_wp2
  go_ret3
  exact ⟨by simp, belN hb3 1⟩
end Go.Proofs.YtcpglhcdllegnabGreatDoor

namespace Go.Proofs.YtcpglhcdllegnabGreatDoor
open Go.RowKit Go.Shelf

theorem Tryz.errComp5 : (Tryz.prog.info? 238).map (·.comparable) = some true := by kernel_rfl
theorem Tryz.errSize5 : (Tryz.prog.info? 256).map (·.size) = some 1 := by kernel_rfl
set_option maxRecDepth 100000 in
set_option maxHeartbeats 4000000 in
/-- law5.awake -/
theorem awake5 (w : World) (hT : Tabs w) {ev : Value} (E : Errs w 0 ev) (hg : w.cell? ⟨1, 0, none⟩ = some (.iface 122 (.agg #[.pointer (some ⟨16, 33, none⟩)]))) :
    Calls Tryz.prog 4 #[] w fun e w' => e = .returned (.bool true) ∧ Below w.heap.size w w' := by
  have H1 := scanQ ⟨#[77, 97, 120, 32, 51, 120, 32, 61, 62, 32, 115, 46, 116, 46]⟩ ⟨#[77, 97, 120, 32, 51, 120, 32, 61, 62, 32, 115, 46, 116, 46]⟩ ⟨#[]⟩ 0 1 1 1 15 _ w (by decide) (by decide +kernel) (by decide +kernel) (by decide +kernel) (by decide +kernel) chn1 (by decide) rfl hT
  have H2 := fun (u : World) (hu : Tabs u) (Eu : Errs u 0 ev) => scanE ⟨#[97, 10, 32, 49, 47, 48, 48]⟩ ⟨#[97, 10, 32, 49, 47, 48, 48]⟩ ⟨#[49, 47, 48, 48]⟩ 0 1 1 2 2 _ u (by decide) (by decide +kernel) (by decide +kernel) (by decide +kernel) (by decide +kernel) chn2 (by decide) (by decide) no100 Eu hu
  have H3 := fun (u : World) (hu : Wds u) => LegalQ ⟨#[120, 49]⟩ u (by decide) hu
  have H4 := fun (u : World) (hu : Wds u) => WordQ ⟨#[77, 105, 110, 105, 109, 105, 115, 101]⟩ u (by decide) hu
  rw [show legalL (⟨#[120, 49]⟩ : ByteArray).data.toList = true by decide +kernel] at H3
  rw [show wordL (⟨#[77, 105, 110, 105, 109, 105, 115, 101]⟩ : ByteArray).data.toList = 2 by decide +kernel] at H4
  have hgl := World.block_lt_of_cell? _ _ hg
  go_enter Tryz.func4, Tryz.ntmps4
  go_wp2_with fail
  refine H1.mono ?_
  rintro e w1 ⟨⟨v, rfl, -, hts⟩, hb1⟩
  obtain ⟨g, cap, rfl, hgw, HT⟩ := hts (List.cons_ne_nil _ _)
  have z0 : w1.cell? ⟨g, 0, none⟩ = some (.int .i64 9) := (HT 0 _ rfl).1
  have z1 : w1.cell? ⟨g, 5, none⟩ = some (.int .i64 1) := (HT 0 _ rfl).2.2.1
  have z2 : w1.cell? ⟨g, 8, none⟩ = some (.int .i64 2) := (HT 1 _ rfl).1
  have z3 : w1.cell? ⟨g, 17, none⟩ = some (.string ⟨#[120]⟩) := (HT 2 _ rfl).2.1
  have z4 : w1.cell? ⟨g, 24, none⟩ = some (.int .i64 7) := (HT 3 _ rfl).1
  have z5 : w1.cell? ⟨g, 37, none⟩ = some (.int .i64 3) := (HT 4 _ rfl).2.2.1
  have hgl1 : g < w1.heap.size := World.block_lt_of_cell? _ _ z0
  replace hT := hT.below hb1
  replace E := E.below hb1
  replace hg : w1.cell? ⟨1, 0, none⟩ = _ := (hb1.cell hgl).trans hg
  clear H1 HT
  go_wp2_with fail
  refine (H2 _ hT E).mono ?_
  rintro e w2 ⟨⟨F, rfl, hF, -⟩, HB⟩
  replace z0 := kept_c HB z0
  replace z1 := kept_c HB z1
  replace z2 := kept_c HB z2
  replace z3 := kept_c HB z3
  replace z4 := kept_c HB z4
  replace z5 := kept_c HB z5
  replace hT := hT.below HB
  replace E := E.below HB
  replace hg := (HB.cell (World.block_lt_of_cell? _ _ hg)).trans hg
  replace hb1 := bel_tr hb1 HB
  obtain ⟨ec, q, rfl⟩ := E
  clear H2 HB
  go_wp2_with fail
  refine (placeQ F 2 2 q _ hF hg).mono ?_
  rintro e w3 ⟨rfl, HB⟩
  replace z0 := kept_c HB z0
  replace z1 := kept_c HB z1
  replace z2 := kept_c HB z2
  replace z3 := kept_c HB z3
  replace z4 := kept_c HB z4
  replace z5 := kept_c HB z5
  replace hT := hT.below HB
  replace ec := kept_c HB ec
  replace hb1 := bel_tr hb1 HB
  clear hF hg HB
  obtain ⟨i5, hi5, hcmp⟩ := Option.map_eq_some_iff.1 Tryz.errComp5
  obtain ⟨j5, hj5, _⟩ := Option.map_eq_some_iff.1 Tryz.errSize5
  have heq := fun u => run_eql_iface_ptr_same (P := Tryz.prog) u q Tryz.underlying33 Tryz.underlying238 hi5 hcmp hj5
  go_wp2_with fail
  refine (H3 _ hT.W).mono ?_
  rintro e w4 ⟨rfl, HB⟩
  replace hT := hT.below HB
  replace hb1 := bel_tr hb1 HB
  clear H3 HB
  go_wp2_with fail
  refine (H4 _ hT.W).mono ?_
  rintro e w5 ⟨rfl, HB⟩
  replace hb1 := bel_tr hb1 HB
  clear H4 HB
  go_wp2
  go_ret
  exact ⟨rfl, hb1⟩
end Go.Proofs.YtcpglhcdllegnabGreatDoor

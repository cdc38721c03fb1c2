import Derived.Test.YtimdohckhfmhiaaGreatDoorPrD
import Derived.Test.YtimdohckhfmhiaaGreatDoorRwA
import Derived.Test.YtimdohckhfmhiaaGreatDoorLxZ
import Derived.Test.YtimdohckhfmhiaaGreatDoorWhEAll
namespace Go.Proofs.YtimdohckhfmhiaaGreatDoor
open Go.RowKit

theorem Rw.set {t : TypeId} {w : World} {R : Nat} {cs : Array Value} (h : Rw t w R cs) (i : Nat) (v : Value) : Rw t (w.setCell ⟨R, i, none⟩ v) R (cs.setIfInBounds i v) ∧ Off R w (w.setCell ⟨R, i, none⟩ v) := by
  refine ⟨?_, (Off.refl _ _).set i v⟩
  unfold Rw at *
  simp [World.setCell, Array.getElem?_modify, h]
/-- A bound's number: nought, where it has none. -/
def bat (h : Bool) (r : Rat) : Rat := if h then r else 0
theorem bndI : (Tryz.prog.info? 49).map (·.size) = some 4 := by kernel_rfl
set_option maxRecDepth 100000 in
set_option maxHeartbeats 4000000 in
theorem tidyBoundQ {h p : Bool} {a : Option Addr} {na ca : Nat} {d : Option Addr} {nd cd : Nat} {r : Rat} {S : Nat} (w : World) (hr : TR w p a na ca d nd cd r S) (hS : S ≤ 7000000) (hS1 : 1 ≤ S) (hT : TB w) :
    Calls Tryz.prog 41 #[.agg #[.bool h, .bool p, .slice a na ca, .slice d nd cd]] w fun e w' => ∃ f c n k c' n' k', e = .returned (.agg #[.bool h, .bool f, .slice c n k, .slice c' n' k']) ∧ GR w' w.heap.size f c n k c' n' k' (bat h r) S ∧ Below w.heap.size w w' := by
  have N := box_new w #[.bool h, .bool p, .slice a na ca, .slice d nd cd] 49
  have hz := bel_d0 w (.cells #[.bool h, .bool p, .slice a na ca, .slice d nd cd] 49)
  have hs : (w.alloc (.cells #[.bool h, .bool p, .slice a na ca, .slice d nd cd] 49)).heap.size = w.heap.size + 1 := by simp
  have R0 := Rw.new 49 (w.alloc (.cells #[.bool h, .bool p, .slice a na ca, .slice d nd cd] 49)) #[.bool false, .bool false, .slice none 0 0, .slice none 0 0]
  rw [hs] at R0
  replace N := N.below (bel_d0 (w.alloc (.cells #[.bool h, .bool p, .slice a na ca, .slice d nd cd] 49)) (.cells #[.bool false, .bool false, .slice none 0 0, .slice none 0 0] 49))
  replace hz := bel_tr hz (bel_d0 (w.alloc (.cells #[.bool h, .bool p, .slice a na ca, .slice d nd cd] 49)) (.cells #[.bool false, .bool false, .slice none 0 0, .slice none 0 0] 49))
  clear hs
  have n0 := N 0 _ rfl
  have n1 := N 1 _ rfl
  have n2 := N 2 _ rfl
  have n3 := N 3 _ rfl
  clear N
  have hr1 := hr.below hz
  have hT1 := hT.below hz
  go_enter Tryz.func41, Tryz.ntmps41
  cases h with
  | false =>
    go_wp2_with fail
    refine (ofQ 0 _ (by decide) (by decide)).mono ?_
    rintro e w2 ⟨f, c, n, k, c', n', k', rfl, G, hb⟩
    have R1 := R0.below hb
    go_wp2_with (refine R1.put #[.bool false, .bool f, .slice c n k, .slice c' n' k'] rfl _ _ rfl rfl rfl bndI rfl (by simp [Value.oneCell']) ?_)
    intro w3 R2 O2
    go_wp2
    have hs1 := hz.size
    have hs2 := hb.size
    have hs3 := R0.lt
    have G2 := G.off O2 (by omega)
    have hb3 : Below w.heap.size w w3 := (bel_tr hz hb).trans (O2.below (by omega))
    have e0 : ((0 : Int) : Rat) = bat false r := rfl
    exact bodyPost_ret (R2.ret1 Tryz.results41 _ rfl Tryz.underlying49 bndI) rfl ⟨f, c, n, k, c', n', k', rfl, ((G2.mono (by omega)).le hS1).val e0, hb3⟩
  | true =>
    go_wp2_with fail
    refine (normR _ hr1 hS hS1 hT1).mono ?_
    rintro e w2 ⟨f, c, n, k, c', n', k', rfl, G, hb⟩
    have R1 := R0.below hb
    go_wp2_with (refine R1.put #[.bool true, .bool f, .slice c n k, .slice c' n' k'] rfl _ _ rfl rfl rfl bndI rfl (by simp [Value.oneCell']) ?_)
    intro w3 R2 O2
    go_wp2
    have hs1 := hz.size
    have hs2 := hb.size
    have hs3 := R0.lt
    have G2 := G.off O2 (by omega)
    have hb3 : Below w.heap.size w w3 := (bel_tr hz hb).trans (O2.below (by omega))
    exact bodyPost_ret (R2.ret1 Tryz.results41 _ rfl Tryz.underlying49 bndI) rfl ⟨f, c, n, k, c', n', k', rfl, G2.mono (by omega), hb3⟩
end Go.Proofs.YtimdohckhfmhiaaGreatDoor

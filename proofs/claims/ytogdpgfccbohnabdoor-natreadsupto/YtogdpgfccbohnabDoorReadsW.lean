import Derived.Test.YtogdpgfccbohnabDoorParse
import Derived.Test.YtogdpgfccbohnabDoorRefParse
namespace Go.Proofs.YtogdpgfccbohnabDoor
open Go.RowKit

theorem rparse_empty (s : ByteArray) (w : World) (h0 : s.size = 0) :
    Calls Tryd.prog 28 #[.string s] w fun e w' => e = .returned (.tuple #[.slice none 0 0, .bool false]) ∧ Below w.heap.size w w' := by
  have h1 : ((s.size : Int) == 0) = true := by rw [h0]; rfl
  clear h0
  go_enter Tryd.func28, Tryd.ntmps28
  go_wp2
  go_ret2
  exact ⟨rfl, Below.refl _ _⟩

set_option maxRecDepth 100000 in
set_option maxHeartbeats 1000000 in
theorem reads_yes (s : ByteArray) (w : World) (hs : s.size ≤ 10000000) (hd : Digs s s.size) (h0 : 0 < s.size)  :
    Calls Tryd.prog 6 #[.string s] w fun e w' => e = .returned (.bool true) ∧ Below w.heap.size w w' := by
  have HT : Below w.heap.size w w := Below.refl _ _
  go_enter Tryd.func6, Tryd.ntmps6
  go_wp2_with fail
  refine (awake_any _).mono ?_
  rintro e w1 ⟨rfl, hb⟩
  have hs1 := hb.size
  replace HT := bel_tr HT hb
  clear hb
  go_wp2_with fail
  refine (parse_yes s _ (by omega) hd h0).mono ?_
  rintro e w2 ⟨c1, n1, d1, rfl, G1, hb⟩
  have hs2 := hb.size
  replace HT := bel_tr HT hb
  clear hb
  have b1 : ∀ q, (Value.slice c1 n1 d1).ownBlock = some q → q < w2.heap.size := fun q hq => (G1.lt q hq).2
  go_wp2_with fail
  refine (parse_yes s _ (by omega) hd h0).mono ?_
  rintro e w3 ⟨c2, n2, d2, rfl, G2, hb⟩
  replace G1 := G1.below hb
  have hs3 := hb.size
  replace HT := bel_tr HT hb
  clear hb
  have b2 : ∀ q, (Value.slice c2 n2 d2).ownBlock = some q → w2.heap.size ≤ q := fun q hq => (G2.lt q hq).1
  go_wp2_with fail
  refine (rparseG s _ h0 (by omega)).mono ?_
  rintro e w4 ⟨hY, _, hb⟩
  replace G1 := G1.below hb
  replace G2 := G2.below hb
  have hs4 := hb.size
  replace HT := bel_tr HT hb
  clear hb
  obtain ⟨c3, n3, d3, rfl, G3⟩ := hY hd
  clear hY
  go_wp2_with fail
  refine (isG _ G1 G3 rfl (by omega)).mono ?_
  rintro e w5 ⟨rfl, hb⟩
  replace G1 := G1.below hb
  replace G2 := G2.below hb
  replace G3 := G3.below hb
  have hs5 := hb.size
  replace HT := bel_tr HT hb
  clear hb
  go_wp2_with fail
  refine (isG _ G2 G3 rfl (by omega)).mono ?_
  rintro e w6 ⟨rfl, hb⟩
  replace G1 := G1.below hb
  replace G2 := G2.below hb
  replace G3 := G3.below hb
  have hs6 := hb.size
  replace HT := bel_tr HT hb
  clear hb
  clear G3
  obtain ⟨xs1, o1, _, _, l1⟩ := G1
  obtain ⟨xs2, o2, _, _, l2⟩ := G2
  go_wp2_with fail
  have hTR := trow_new (w := w6) [(Value.slice c1 n1 d1, xs1), (Value.slice c2 n2 d2, xs2)]
  refine (apart_list w6.heap.size 2 w.heap.size _ _ hTR ?ho ?hd (by simp) ?hl (by simp; omega)).mono ?_
  case ho =>
    intro p hp
    simp only [List.mem_cons, List.not_mem_nil, or_false] at hp
    rcases hp with rfl | rfl
    · exact (o1.mono (B' := w.heap.size) (by omega)).alloc _
    · exact (o2.mono (B' := w.heap.size) (by omega)).alloc _
  case hd =>
    simp only [List.pairwise_cons, List.mem_cons, List.not_mem_nil, or_false, forall_eq, List.Pairwise.nil, and_true, false_implies, implies_true]
    intro q h1 h2
    have := b1 q h1; have := b2 q h2; omega
  case hl =>
    intro p hp
    simp only [List.mem_cons, List.not_mem_nil, or_false] at hp
    rcases hp with rfl | rfl <;> simp only <;> omega
  rintro e wz ⟨rfl, hb⟩
  have HZ : Below w.heap.size w wz := HT.trans (((Below.refl _ _).alloc (by omega) _).trans hb)
  clear hb hTR HT
  go_wp2
  go_ret
  exact ⟨rfl, HZ⟩

set_option maxRecDepth 100000 in
set_option maxHeartbeats 1000000 in
theorem reads_no (s : ByteArray) (w : World) (ev : Value) (hs : s.size ≤ 10000000) (hd : ¬ Digs s s.size) (h0 : 0 < s.size) (E : Errs w 2 ev) :
    Calls Tryd.prog 6 #[.string s] w fun e w' => e = .returned (.bool true) ∧ Below w.heap.size w w' := by
  have HT : Below w.heap.size w w := Below.refl _ _
  go_enter Tryd.func6, Tryd.ntmps6
  go_wp2_with fail
  refine (awake_any _).mono ?_
  rintro e w1 ⟨rfl, hb⟩
  replace E := E.below hb
  have hs1 := hb.size
  replace HT := bel_tr HT hb
  clear hb
  go_wp2_with fail
  refine (parse_no s _ ev (by omega) (fun h => hd h.1) E).mono ?_
  rintro e w2 ⟨rfl, hb⟩
  replace E := E.below hb
  have hs2 := hb.size
  replace HT := bel_tr HT hb
  clear hb
  go_wp2_with fail
  refine (parse_no s _ ev (by omega) (fun h => hd h.1) E).mono ?_
  rintro e w3 ⟨rfl, hb⟩
  replace E := E.below hb
  have hs3 := hb.size
  replace HT := bel_tr HT hb
  clear hb
  go_wp2_with fail
  refine (rparseG s _ h0 (by omega)).mono ?_
  rintro e w4 ⟨_, hY, hb⟩
  replace E := E.below hb
  have hs4 := hb.size
  replace HT := bel_tr HT hb
  clear hb
  obtain rfl := hY hd
  clear hY
  have hE := E.1
  go_wp2_with fail
  refine (refusedE _ E).mono ?_
  rintro e wsame ⟨rfl, rfl⟩
  go_wp2_with fail
  refine (refusedE _ E).mono ?_
  rintro e wsame ⟨rfl, rfl⟩
  clear hE E
  go_wp2_with fail
  have hTR := trow_new (w := w4) [(Value.slice none 0 0, []), (Value.slice none 0 0, [])]
  refine (apart_list w4.heap.size 2 w.heap.size _ _ hTR ?ho ?hd (by simp) ?hl (by simp; omega)).mono ?_
  case ho =>
    intro p hp
    simp only [List.mem_cons, List.not_mem_nil, or_false] at hp
    rcases hp with rfl | rfl
    · exact OwnV.nil _ _
    · exact OwnV.nil _ _
  case hd =>
    simp only [List.pairwise_cons, List.mem_cons, List.not_mem_nil, or_false, forall_eq, List.Pairwise.nil, and_true, false_implies, implies_true]
    intro q h1 h2
    cases h1
  case hl =>
    intro p hp
    simp only [List.mem_cons, List.not_mem_nil, or_false] at hp
    rcases hp with rfl | rfl <;> simp only [List.length_nil] <;> omega
  rintro e wz ⟨rfl, hb⟩
  have HZ : Below w.heap.size w wz := HT.trans (((Below.refl _ _).alloc (by omega) _).trans hb)
  clear hb hTR HT
  go_wp2
  go_ret
  exact ⟨rfl, HZ⟩

set_option maxRecDepth 100000 in
set_option maxHeartbeats 1000000 in
theorem reads_empty (s : ByteArray) (w : World) (ev : Value) (h0 : s.size = 0) (E : Errs w 2 ev) :
    Calls Tryd.prog 6 #[.string s] w fun e w' => e = .returned (.bool true) ∧ Below w.heap.size w w' := by
  have HT : Below w.heap.size w w := Below.refl _ _
  go_enter Tryd.func6, Tryd.ntmps6
  go_wp2_with fail
  refine (awake_any _).mono ?_
  rintro e w1 ⟨rfl, hb⟩
  replace E := E.below hb
  have hs1 := hb.size
  replace HT := bel_tr HT hb
  clear hb
  go_wp2_with fail
  refine (parse_no s _ ev (by omega) (fun h => by omega) E).mono ?_
  rintro e w2 ⟨rfl, hb⟩
  replace E := E.below hb
  have hs2 := hb.size
  replace HT := bel_tr HT hb
  clear hb
  go_wp2_with fail
  refine (parse_no s _ ev (by omega) (fun h => by omega) E).mono ?_
  rintro e w3 ⟨rfl, hb⟩
  replace E := E.below hb
  have hs3 := hb.size
  replace HT := bel_tr HT hb
  clear hb
  go_wp2_with fail
  refine (rparse_empty s _ h0).mono ?_
  rintro e w4 ⟨rfl, hb⟩
  replace E := E.below hb
  have hs4 := hb.size
  replace HT := bel_tr HT hb
  clear hb
  have hE := E.1
  go_wp2_with fail
  refine (refusedE _ E).mono ?_
  rintro e wsame ⟨rfl, rfl⟩
  go_wp2_with fail
  refine (refusedE _ E).mono ?_
  rintro e wsame ⟨rfl, rfl⟩
  clear hE E
  go_wp2_with fail
  have hTR := trow_new (w := w4) [(Value.slice none 0 0, []), (Value.slice none 0 0, [])]
  refine (apart_list w4.heap.size 2 w.heap.size _ _ hTR ?ho ?hd (by simp) ?hl (by simp; omega)).mono ?_
  case ho =>
    intro p hp
    simp only [List.mem_cons, List.not_mem_nil, or_false] at hp
    rcases hp with rfl | rfl
    · exact OwnV.nil _ _
    · exact OwnV.nil _ _
  case hd =>
    simp only [List.pairwise_cons, List.mem_cons, List.not_mem_nil, or_false, forall_eq, List.Pairwise.nil, and_true, false_implies, implies_true]
    intro q h1 h2
    cases h1
  case hl =>
    intro p hp
    simp only [List.mem_cons, List.not_mem_nil, or_false] at hp
    rcases hp with rfl | rfl <;> simp only [List.length_nil] <;> omega
  rintro e wz ⟨rfl, hb⟩
  have HZ : Below w.heap.size w wz := HT.trans (((Below.refl _ _).alloc (by omega) _).trans hb)
  clear hb hTR HT
  go_wp2
  go_ret
  exact ⟨rfl, HZ⟩

theorem reads_walk (s : ByteArray) (w : World) (ev : Value) (hs : s.size ≤ 10000000) (E : Errs w 2 ev) :
    Calls Tryd.prog 6 #[.string s] w fun e w' => e = .returned (.bool true) ∧ Below w.heap.size w w' := by
  by_cases h0 : 0 < s.size
  · by_cases hd : Digs s s.size
    · exact reads_yes s w hs hd h0
    · exact reads_no s w ev hs hd h0 E
  · exact reads_empty s w ev (by omega) E
end Go.Proofs.YtogdpgfccbohnabDoor

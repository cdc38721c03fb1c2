import Derived.Test.YtcpglhcdllegnaaGreatDoorLyEAll
import Derived.Test.YtcpglhcdllegnaaGreatDoorLxFAll
namespace Go.Proofs.YtcpglhcdllegnaaGreatDoor
open Go.RowKit Go.Shelf

/-- law5.long -/
theorem longQ (s : ByteArray) (w : World) : Calls Tryz.prog 10 #[.string s, .string s] w fun e w' => e = .returned (.bool (decide (262144 ≤ s.size))) ∧ w' = w := by
  by_cases h : 262144 ≤ s.size
  · have hI : (262144 : Int) ≤ (s.size : Int) := by omega
    rw [decide_eq_true h]
    go_enter Tryz.func10, Tryz.ntmps10
    go_wp2
    go_ret
    exact ⟨rfl, rfl⟩
  · have hI : ¬ (262144 : Int) ≤ (s.size : Int) := by omega
    rw [decide_eq_false h]
    go_enter Tryz.func10, Tryz.ntmps10
    go_wp2
    go_ret
    exact ⟨rfl, rfl⟩
set_option maxRecDepth 100000 in
set_option maxHeartbeats 4000000 in
/-- law5.LexWords -/
theorem words_walk (s : ByteArray) (w : World) (hT : Tabs w) {ev : Value} (E : Errs w 0 ev) (hg : w.cell? ⟨4, 0, none⟩ = some (.iface 120 (.agg #[.pointer (some ⟨16, 26, none⟩)]))) :
    Calls Tryz.prog 5 #[.string s] w fun e w' => e = .returned (.bool true) ∧ Below w.heap.size w w' := by
  have HA := awake5 w hT E hg
  have HL := fun u => longQ s u
  clear E hg
  by_cases h : 262144 ≤ s.size
  · rw [decide_eq_true h] at HL
    go_enter Tryz.func5, Tryz.ntmps5
    go_wp2_with fail
    refine HA.mono ?_
    rintro e w1 ⟨rfl, hb⟩
    go_wp2_with fail
    refine (HL _).mono ?_
    rintro e w2 ⟨rfl, rfl⟩
    go_wp2
    go_ret
    exact ⟨rfl, hb⟩
  · rw [decide_eq_false h] at HL
    have H1 := fun (u : World) (hu : Wds u) => LegalQ s u (by omega) hu
    have H2 := fun u => LegalD s u (by omega)
    have H3 := fun (u : World) (hu : Wds u) => WordQ s u (by omega) hu
    have H4 := fun u => WordD s u (by omega)
    generalize legalL s.data.toList = L at *
    generalize wordL s.data.toList = M at *
    have hLL : (L == L) = true := by simp
    have hMM : ((M : Int) == (M : Int)) = true := by simp
    clear h
    go_enter Tryz.func5, Tryz.ntmps5
    go_wp2_with fail
    refine HA.mono ?_
    rintro e w1 ⟨rfl, hb⟩
    replace hT := hT.below hb
    go_wp2_with fail
    refine (HL _).mono ?_
    rintro e w2 ⟨rfl, rfl⟩
    go_wp2_with fail
    refine (H1 _ hT.W).mono ?_
    rintro e w3 ⟨rfl, hb2⟩
    replace hT := hT.below hb2
    replace hb := bel_tr hb hb2
    go_wp2_with fail
    refine (H2 _).mono ?_
    rintro e w4 ⟨rfl, hb3⟩
    replace hT := hT.below hb3
    replace hb := bel_tr hb hb3
    go_wp2_with fail
    refine (H3 _ hT.W).mono ?_
    rintro e w5 ⟨rfl, hb4⟩
    replace hT := hT.below hb4
    replace hb := bel_tr hb hb4
    go_wp2_with fail
    refine (H4 _).mono ?_
    rintro e w6 ⟨rfl, hb5⟩
    replace hb := bel_tr hb hb5
    go_wp2
    go_ret
    exact ⟨rfl, hb⟩
end Go.Proofs.YtcpglhcdllegnaaGreatDoor

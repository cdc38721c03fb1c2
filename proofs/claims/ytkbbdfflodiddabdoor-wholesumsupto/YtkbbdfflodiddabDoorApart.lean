import Derived.Test.YtkbbdfflodiddabDoorApartC
namespace Go.Proofs.YtkbbdfflodiddabDoor
open Go.RowKit

theorem lm_ml_lt {x : Nat → List Int} {i k n : Nat} (hn : (x i).length = n) (h : k < n) : lm (ml x i 20) k = 1000000 * (i : Int) + k + 7 := by
  unfold ml; rw [lm_append_left (by rw [length_mk]; omega), lm_mk (by omega)]
theorem lm_ml_ge {x : Nat → List Int} {i k n : Nat} (hn : (x i).length = n) (h : n ≤ k) (h2 : k < n + 20) : lm (ml x i 20) k = 900000000 + (i : Int) := by
  unfold ml
  rw [lm_append_right (by rw [length_mk]; omega), length_mk]
  have e : (List.replicate 20 (900000000 + (i : Int)))[k - (x i).length]? = some (900000000 + (i : Int)) := by rw [List.getElem?_replicate, if_pos (by omega)]
  unfold lm
  rw [List.getD_eq_getElem?_getD, e]
  rfl

set_option maxHeartbeats 4000000 in
theorem apart_any (gl capl m B : Nat) (v : Nat → Value) (x : Nat → List Int) (w : World) (hT : TRow w gl m v) (ho : ∀ j, j < m → OwnV w B (v j) (x j))
    (dis : ∀ i j, i < m → j < m → i ≠ j → ∀ g, (v i).ownBlock = some g → (v j).ownBlock ≠ some g) (hm : m ≤ 2000000) (hx : ∀ j, j < m → (x j).length ≤ 1000000000) (hB : B ≤ w.heap.size) :
    Calls Tryd.prog 23 #[.slice (some ⟨gl, 0, none⟩) m capl] w fun e w' => e = .returned (.bool true) ∧ Below B w w' := by
  go_enter Tryd.func23, Tryd.ntmps23
  go_wp2
  go_loopw [3] (fun s wr => ∃ i : Nat, i ≤ m ∧ s = .int .i64 i ∧ TRow wr gl m v ∧ (∀ j, j < m → OwnV wr B (v j) (st x i 0 j)) ∧ Below B w wr) (fun s _ => m - (intOf s).toNat)
  case atStart => exact ⟨0, Nat.zero_le _, rfl, hT, fun j hj => by rw [st_zero]; exact ho j hj, Below.refl _ _⟩
  case round =>
    obtain ⟨i, hi, rfl, hTr, hor, hbel⟩ := hrel
    clear hT ho
    by_cases hlt : i < m
    · have hli := hx i hlt
      obtain ⟨a, cap, hvi⟩ := own_form (hor i hlt) (length_st x i 0 i (Nat.zero_le _))
      have hil : (i : Int) < (m : Int) := by omega
      obtain ⟨n, hn⟩ : ∃ n, (x i).length = n := ⟨_, rfl⟩
      rw [hn] at hvi hli
      have HVI : Hid (v i = .slice a n cap) := hvi
      have HNN : Hid ((x i).length = n) := hn
      clear hvi hn
      go_wp2
      go_loopw [4] (fun s wr => ∃ k : Nat, k ≤ n ∧ s = .int .i64 k ∧ TRow wr gl m v ∧ (∀ j, j < m → OwnV wr B (v j) (st x i k j)) ∧ Below B w wr) (fun s _ => n - (intOf s).toNat)
      case atStart => exact ⟨0, Nat.zero_le _, rfl, hTr, hor, hbel⟩
      case round =>
        clear hTr hor hbel
        obtain ⟨k, hk, rfl, hTr, hor, hbel⟩ := hrel
        have c := hTr.cell hlt
        rw [HVI.out] at c
        by_cases hkn : k < n
        · have hoi := hor i hlt
          rw [HVI.out] at hoi
          obtain ⟨g, rfl, _⟩ := own_some hoi (by omega)
          have hkl : (k : Int) < (n : Int) := by omega
          obtain ⟨s1, s2, s3, s4, s5⟩ := mark_step hTr hor dis hlt (by rw [HNN.out]; exact hkn) (by rw [HVI.out, HNN.out])
          have hb2 := hbel.setCell (p := ⟨g, k, none⟩) s3 (.int .u64 (1000000 * (i : Int) + k + 7))
          clear hTr hor hbel hoi
          go_wp2
          go_roundw
          case rel => exact ⟨k + 1, by omega, by go_num, s4, s5, hb2⟩
          case measure => simp [intOf]; omega
        · obtain rfl : k = n := by omega
          have hor2 : ∀ j, j < m → OwnV wr B (v j) (st x (i + 1) 0 j) := fun j hj => by rw [← st_next, HNN.out]; exact hor j hj
          clear hor
          go_wp2
          go_roundw
          case rel => exact ⟨i + 1, by omega, by go_num, hTr, hor2, hbel⟩
          case measure => simp [intOf]; omega
    · obtain rfl : i = m := by omega
      have hor2 : ∀ j, j < i → OwnV wr B (v j) (mk j (x j).length) := fun j hj => by have := hor j hj; rw [st_all hj] at this; exact this
      have hBr : B ≤ wr.heap.size := by have := hbel.size; omega
      have hP : P2 B gl i v x (.slice none 0 0) (fun _ => .slice none 0 0) 0 wr.heap.size wr :=
        ⟨hTr, hor2, fun j hj => by omega, TOwn.nil _ _ _, fun j hj => by omega, fun g hg => by simp [Value.ownBlock] at hg, fun j hj g hg => ((hor2 j hj).lt g hg).2, fun j hj => by omega, Nat.le_refl _, hBr⟩
      clear hor hor2 hTr hlt hi hBr
      generalize hmi : i = m at *
      clear hmi
      go_wp2
      go_loopw [5, 6] (fun lv s wr => ∃ (i : Nat) (Y : Nat → Value), i ≤ m ∧ s = .int .i64 i ∧ P2 B gl m v x lv Y i wr.heap.size wr ∧ Below B w wr) (fun _ s _ => m - (intOf s).toNat)
      case atStart => exact ⟨0, _, Nat.zero_le _, rfl, hP, hbel⟩
      case round =>
        clear hP hbel
        obtain ⟨i, Y, hi, rfl, hP, hbel⟩ := hrel
        by_cases hlt : i < m
        · have hli := hx i hlt
          have hil : (i : Int) < (m : Int) := by omega
          obtain ⟨n, hn⟩ : ∃ n, (x i).length = n := ⟨_, rfl⟩
          rw [hn] at hli
          have HNN : Hid ((x i).length = n) := hn
          clear hn
          have c := hP.T.cell hlt
          obtain ⟨H, hH⟩ : ∃ H, wr.heap.size = H := ⟨_, rfl⟩
          rw [hH] at hP
          clear hH
          have hY0 : YS B (v i) (v i) (x i).length 0 (ml x i 0) H wr := ⟨by have := hP.ov i hlt; unfold ml; simpa using this, .inl ⟨rfl, rfl⟩⟩
          go_wp2
          go_loopw [7, 8] (fun y s wr => ∃ k : Nat, k ≤ 20 ∧ s = .int .i64 k ∧ P2 B gl m v x u5 Y i H wr ∧ YS B (v i) y (x i).length k (ml x i k) H wr ∧ Below B w wr) (fun _ s _ => 20 - (intOf s).toNat)
          case atStart => exact ⟨0, Nat.zero_le _, rfl, hP, hY0, hbel⟩
          case round =>
            clear hP hbel hY0 c
            obtain ⟨k, hk, rfl, hP, hYS, hbel⟩ := hrel
            by_cases hk20 : k < 20
            · have HK : Hid ((ml x i k).length = n + k) := by show _ = _; rw [length_ml, HNN.out]
              have hBr := hP.hB
              go_wp2_with (at_builtin; refine wpList_appendD 28 Tryd.underlying28 _ rfl _ _ rfl B u7 (ml x i k) (n + k) HK rfl (hYS.1.alloc _) wr.heap.size _ (900000000 + (i : Int)) rfl (cell_new1' rfl) (by omega) (by simp; omega) ?_)
              intro g cap w1 hown hl
              have hown' : OwnV w1 B (.slice (some ⟨g, 0, none⟩) ((x i).length + k + 1) cap) (ml x i k ++ [900000000 + (i : Int)]) := by rw [HNN.out]; exact hown
              obtain ⟨q1, q2, q3⟩ := p2_inner dis hP hlt hYS hown' hl
              rw [HNN.out] at q2
              have hbel2 := hbel.trans q3
              clear hown hown' hl hP hYS q3 hbel
              go_wp2
              go_roundw
              case rel => exact ⟨k + 1, by omega, by go_num, q1, by rw [HNN.out]; exact q2, hbel2⟩
              case measure => simp [intOf]; omega
            · obtain rfl : k = 20 := by omega
              have hform : ∃ g cap, u7 = .slice (some ⟨g, 0, none⟩) (n + 20) cap := by
                rcases hYS.2 with ⟨h0, _⟩ | ⟨g, cap, _, e⟩ | ⟨g, cap, e, _⟩
                · omega
                · exact ⟨g, cap, by rw [e, HNN.out]⟩
                · exact ⟨g, cap, by rw [e, HNN.out]⟩
              obtain ⟨g, cap, rfl⟩ := hform
              have hBr := hP.hB
              go_wp2_with (at_builtin; refine wpList_appendT _ rfl _ _ rfl B u5 i Y rfl (World.ownsRow.alloc hP.tl _) wr.heap.size _ (.slice (some ⟨g, 0, none⟩) (n + 20) cap) rfl (cell_new1' rfl) rfl (by omega) (by simp; omega) (wr.heap.size + 1) (by simp) ?_)
              intro g2 cap2 w1 hown hgrow hat _
              obtain ⟨q1, q2⟩ := p2_outer dis hP hlt hYS hown hgrow hat
              have hbel2 := hbel.trans q2
              clear hown hgrow hat hP hYS q2 hbel
              go_wp2
              go_roundw
              case rel => exact ⟨i + 1, _, by omega, by go_num, q1, hbel2⟩
              case measure => simp [intOf]; omega
        · obtain rfl : i = m := by omega
          clear hlt hi
          go_wp2
          go_loop [9] (fun s => ∃ q : Nat, q ≤ i ∧ s = .int .i64 q) (fun s => i - (intOf s).toNat)
          case atStart => exact ⟨0, Nat.zero_le _, rfl⟩
          case round =>
            obtain ⟨q, hq, rfl⟩ := hrel
            by_cases hqi : q < i
            · obtain ⟨gL, capL, rfl, hTL, hcL⟩ := hP.tl.row (by omega)
              have hlq := hx q hqi
              have hql : (q : Int) < (i : Int) := by omega
              obtain ⟨n, hn⟩ : ∃ n, (x q).length = n := ⟨_, rfl⟩
              rw [hn] at hlq
              have c1 := hP.T.cell hqi
              have c2 := hTL.cell hqi
              have o1 := hP.ov q hqi
              have o2 := hP.oY q hqi
              obtain ⟨a1, cap1, e1⟩ := own_form o1 (length_mk q _)
              obtain ⟨a2, cap2, e2⟩ := own_form o2 (length_ml x q 20)
              rw [hn] at e1 e2
              rw [e1] at c1 o1
              rw [e2] at c2 o2
              obtain ⟨g2, rfl, r2⟩ := own_some o2 (by omega)
              have HNN : Hid ((x q).length = n) := hn
              clear hn e1 e2
              go_wp2
              go_loop [10, 11] (fun s _ => ∃ k : Nat, k ≤ n + 20 ∧ s = .int .i64 k) (fun s _ => n + 20 - (intOf s).toNat)
              case atStart => exact ⟨0, Nat.zero_le _, rfl⟩
              case round =>
                obtain ⟨k, hk, rfl⟩ := hrel
                by_cases hk20 : k < n + 20
                · have hk2 : (k : Int) < (n : Int) + 20 := by omega
                  have d2 := r2.cell (i := k) (by rw [length_ml, HNN.out]; exact hk20)
                  by_cases hkn : k < n
                  · have hkl : (k : Int) < (n : Int) := by omega
                    obtain ⟨g1, rfl, r1⟩ := own_some o1 (by omega)
                    have d1 := r1.cell (i := k) (by rw [length_mk, HNN.out]; exact hkn)
                    rw [lm_mk (by rw [HNN.out]; exact hkn)] at d1
                    rw [lm_ml_lt HNN.out hkn] at d2
                    have t1 : (1000000 * (q : Int) + k + 7 != 1000000 * (q : Int) + k + 7) = false := by simp
                    clear r1 r2 o1 o2 hTL
                    go_wp2
                    go_round
                    case rel => exact ⟨k + 1, by omega, by go_num⟩
                    case measure => simp [intOf]; omega
                  · have hkl : ¬ (k : Int) < (n : Int) := by omega
                    rw [lm_ml_ge HNN.out (by omega) hk20] at d2
                    have t1 : (900000000 + (q : Int) != 900000000 + (q : Int)) = false := by simp
                    clear r2 o1 o2 hTL
                    go_wp2
                    go_round
                    case rel => exact ⟨k + 1, by omega, by go_num⟩
                    case measure => simp [intOf]; omega
                · obtain rfl : k = n + 20 := by omega
                  clear r2 o1 o2 hTL
                  go_wp2
                  go_round
                  case rel => exact ⟨q + 1, by omega, by go_num⟩
                  case measure => simp [intOf]; omega
            · clear hP
              go_wp2
              go_ret
              exact ⟨rfl, hbel⟩
end Go.Proofs.YtkbbdfflodiddabDoor

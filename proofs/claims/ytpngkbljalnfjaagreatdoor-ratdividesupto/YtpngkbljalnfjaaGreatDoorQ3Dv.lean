import Derived.Test.YtpngkbljalnfjaaGreatDoorQAll
import Derived.Test.YtpngkbljalnfjaaGreatDoorR3M
namespace Go.Proofs.YtpngkbljalnfjaaGreatDoor
open Go.RowKit

set_option maxRecDepth 100000 in
set_option maxHeartbeats 20000000 in
theorem divides_walk {p1 : Bool} {a1 : Option Addr} {na1 ca1 : Nat} {d1 : Option Addr} {nd1 cd1 : Nat} {p2 : Bool} {a2 : Option Addr} {na2 ca2 : Nat} {d2 : Option Addr} {nd2 cd2 : Nat} {x y : Rat} {S : Nat} (w : World) (hA : TR w p1 a1 na1 ca1 d1 nd1 cd1 x S) (hB : TR w p2 a2 na2 ca2 d2 nd2 cd2 y S) (hS : S ≤ 1100000) (hS1 : 1 ≤ S) (hT : TB w) {ev : Value} (E : Errs w 0 ev) :
    Calls Tryz.prog 7 #[.agg #[.bool p1, .slice a1 na1 ca1, .slice d1 nd1 cd1], .agg #[.bool p2, .slice a2 na2 ca2, .slice d2 nd2 cd2]] w fun e w' => e = .returned (.bool true) ∧ Below w.heap.size w w' := by
  obtain ⟨VA, VB, hb0, hsz⟩ := box_rr w (.bool p1) (.slice a1 na1 ca1) (.slice d1 nd1 cd1) (.bool p2) (.slice a2 na2 ca2) (.slice d2 nd2 cd2) 27
  replace hA := hA.below hb0
  replace hB := hB.below hb0
  replace hT := hT.below hb0
  replace E := E.below hb0
  go_enter Tryz.func7, Tryz.ntmps7
  go_wp2_with fail
  generalize (w.alloc (.cells #[.bool p1, .slice a1 na1 ca1, .slice d1 nd1 cd1] 27)).alloc (.cells #[.bool p2, .slice a2 na2 ca2, .slice d2 nd2 cd2] 27) = W0 at *
  replace hsz := Nat.le_of_eq hsz.symm
  refine (shownQ _ hT E).mono ?_
  rintro e w1 ⟨rfl, hx⟩
  replace hA := hA.below hx
  replace hB := hB.below hx
  replace hT := hT.below hx
  replace E := E.below hx
  replace VA := VA.below hx
  replace VB := VB.below hx
  replace hb0 := bel_tr hb0 hx
  replace hsz := Nat.le_trans hsz (Below.size hx)
  clear hx
  obtain ⟨vac0, vac1, vac2, vac3, vac4, vac5⟩ := id VA
  obtain ⟨vbc0, vbc1, vbc2, vbc3, vbc4, vbc5⟩ := id VB
  go_wp2_with fail
  by_cases hz : y = 0
  · refine (quoQE _ hA hB (by omega) (by omega) (by omega) hz E).mono ?_
    rintro e w2 ⟨rfl, hx⟩
    clear vac0 vac1 vac2 vac3 vac4 vac5 vbc0 vbc1 vbc2 vbc3 vbc4 vbc5
    replace hA := hA.below hx
    replace hB := hB.below hx
    replace hT := hT.below hx
    replace E := E.below hx
    replace VA := VA.below hx
    replace VB := VB.below hx
    replace hb0 := bel_tr hb0 hx
    replace hsz := Nat.le_trans hsz (Below.size hx)
    clear hx
    have hx := bel_d0 w2 (.cells #[.bool false, .slice none 0 0, .slice none 0 0] 27)
    replace hA := hA.below hx
    replace hB := hB.below hx
    replace hT := hT.below hx
    replace E := E.below hx
    replace VA := VA.below hx
    replace VB := VB.below hx
    replace hb0 := bel_tr hb0 hx
    replace hsz := Nat.le_trans hsz (Below.size hx)
    have Vq := var3_new w2 (.bool false) (.slice none 0 0) (.slice none 0 0) 27
    clear hx
    obtain ⟨vac0, vac1, vac2, vac3, vac4, vac5⟩ := id VA
    obtain ⟨vbc0, vbc1, vbc2, vbc3, vbc4, vbc5⟩ := id VB
    go_wp2_with fail
    generalize w2.alloc (.cells #[.bool false, .slice none 0 0, .slice none 0 0] 27) = w3 at *
    refine (quoDE _ hA hB (by omega) (by omega) (by omega) hz).mono ?_
    rintro e w4 ⟨rfl, hx⟩
    clear vac0 vac1 vac2 vac3 vac4 vac5 vbc0 vbc1 vbc2 vbc3 vbc4 vbc5
    replace hA := hA.below hx
    replace hB := hB.below hx
    replace hT := hT.below hx
    replace E := E.below hx
    replace VA := VA.below hx
    replace VB := VB.below hx
    replace Vq := Vq.below hx
    replace hb0 := bel_tr hb0 hx
    replace hsz := Nat.le_trans hsz (Below.size hx)
    clear hx
    have hx := bel_d0 w4 (.cells #[.bool false, .slice none 0 0, .slice none 0 0] 27)
    replace hA := hA.below hx
    replace hB := hB.below hx
    replace hT := hT.below hx
    replace E := E.below hx
    replace VA := VA.below hx
    replace VB := VB.below hx
    replace Vq := Vq.below hx
    replace hb0 := bel_tr hb0 hx
    replace hsz := Nat.le_trans hsz (Below.size hx)
    have Vu := var3_new w4 (.bool false) (.slice none 0 0) (.slice none 0 0) 27
    clear hx
    obtain ⟨vqc0, vqc1, vqc2, vqc3, vqc4, vqc5⟩ := id Vq
    obtain ⟨vuc0, vuc1, vuc2, vuc3, vuc4, vuc5⟩ := id Vu
    go_wp2_with fail
    generalize w4.alloc (.cells #[.bool false, .slice none 0 0, .slice none 0 0] 27) = w5 at *
    refine (toldE (S := 1) _ (tr_nil _ _) (by omega) (by omega) E).mono ?_
    rintro e w6 ⟨rfl, hx⟩
    clear vqc0 vqc1 vqc2 vqc3 vqc4 vqc5 vuc0 vuc1 vuc2 vuc3 vuc4 vuc5
    replace hA := hA.below hx
    replace hB := hB.below hx
    replace hT := hT.below hx
    replace E := E.below hx
    replace VA := VA.below hx
    replace VB := VB.below hx
    replace Vq := Vq.below hx
    replace Vu := Vu.below hx
    replace hb0 := bel_tr hb0 hx
    replace hsz := Nat.le_trans hsz (Below.size hx)
    clear hx
    obtain ⟨vbc0, vbc1, vbc2, vbc3, vbc4, vbc5⟩ := id VB
    go_wp2_with fail
    refine (invE _ hB (by omega) (by omega) hz E).mono ?_
    rintro e w7 ⟨rfl, hx⟩
    clear vbc0 vbc1 vbc2 vbc3 vbc4 vbc5
    replace hA := hA.below hx
    replace hB := hB.below hx
    replace hT := hT.below hx
    replace E := E.below hx
    replace VA := VA.below hx
    replace VB := VB.below hx
    replace Vq := Vq.below hx
    replace Vu := Vu.below hx
    replace hb0 := bel_tr hb0 hx
    replace hsz := Nat.le_trans hsz (Below.size hx)
    clear hx
    have hx := bel_d0 w7 (.cells #[.bool false, .slice none 0 0, .slice none 0 0] 27)
    replace hA := hA.below hx
    replace hB := hB.below hx
    replace hT := hT.below hx
    replace E := E.below hx
    replace VA := VA.below hx
    replace VB := VB.below hx
    replace Vq := Vq.below hx
    replace Vu := Vu.below hx
    replace hb0 := bel_tr hb0 hx
    replace hsz := Nat.le_trans hsz (Below.size hx)
    have Vi := var3_new w7 (.bool false) (.slice none 0 0) (.slice none 0 0) 27
    clear hx
    obtain ⟨vbc0, vbc1, vbc2, vbc3, vbc4, vbc5⟩ := id VB
    go_wp2_with fail
    generalize w7.alloc (.cells #[.bool false, .slice none 0 0, .slice none 0 0] 27) = w8 at *
    refine (invDE _ hB (by omega) (by omega) hz).mono ?_
    rintro e w9 ⟨rfl, hx⟩
    clear vbc0 vbc1 vbc2 vbc3 vbc4 vbc5
    replace hA := hA.below hx
    replace hB := hB.below hx
    replace hT := hT.below hx
    replace E := E.below hx
    replace VA := VA.below hx
    replace VB := VB.below hx
    replace Vq := Vq.below hx
    replace Vu := Vu.below hx
    replace Vi := Vi.below hx
    replace hb0 := bel_tr hb0 hx
    replace hsz := Nat.le_trans hsz (Below.size hx)
    clear hx
    have hx := bel_d0 w9 (.cells #[.bool false, .slice none 0 0, .slice none 0 0] 27)
    replace hA := hA.below hx
    replace hB := hB.below hx
    replace hT := hT.below hx
    replace E := E.below hx
    replace VA := VA.below hx
    replace VB := VB.below hx
    replace Vq := Vq.below hx
    replace Vu := Vu.below hx
    replace Vi := Vi.below hx
    replace hb0 := bel_tr hb0 hx
    replace hsz := Nat.le_trans hsz (Below.size hx)
    have Vj := var3_new w9 (.bool false) (.slice none 0 0) (.slice none 0 0) 27
    clear hx
    obtain ⟨vic0, vic1, vic2, vic3, vic4, vic5⟩ := id Vi
    obtain ⟨vjc0, vjc1, vjc2, vjc3, vjc4, vjc5⟩ := id Vj
    go_wp2_with fail
    generalize w9.alloc (.cells #[.bool false, .slice none 0 0, .slice none 0 0] 27) = w10 at *
    refine (toldE (S := 1) _ (tr_nil _ _) (by omega) (by omega) E).mono ?_
    rintro e w11 ⟨rfl, hx⟩
    clear vic0 vic1 vic2 vic3 vic4 vic5 vjc0 vjc1 vjc2 vjc3 vjc4 vjc5
    replace hA := hA.below hx
    replace hB := hB.below hx
    replace hT := hT.below hx
    replace E := E.below hx
    replace VA := VA.below hx
    replace VB := VB.below hx
    replace Vq := Vq.below hx
    replace Vu := Vu.below hx
    replace Vi := Vi.below hx
    replace Vj := Vj.below hx
    replace hb0 := bel_tr hb0 hx
    replace hsz := Nat.le_trans hsz (Below.size hx)
    clear hx
    go_wp2
    go_ret
    exact ⟨rfl, hb0⟩
  · refine (quoQ _ hA hB (by omega) (by omega) (by omega) hz hT).mono ?_
    rintro e w2 ⟨fq, cq, nq, kq, dq, mq, lq, rfl, Gq, hx⟩
    replace Gq := Gq.mono (B' := w.heap.size + 2) hsz
    clear vac0 vac1 vac2 vac3 vac4 vac5 vbc0 vbc1 vbc2 vbc3 vbc4 vbc5
    replace hA := hA.below hx
    replace hB := hB.below hx
    replace hT := hT.below hx
    replace E := E.below hx
    replace VA := VA.below hx
    replace VB := VB.below hx
    replace hb0 := bel_tr hb0 hx
    replace hsz := Nat.le_trans hsz (Below.size hx)
    clear hx
    have hx := bel_d0 w2 (.cells #[.bool fq, .slice cq nq kq, .slice dq mq lq] 27)
    replace hA := hA.below hx
    replace hB := hB.below hx
    replace hT := hT.below hx
    replace E := E.below hx
    replace Gq := Gq.below hx
    replace VA := VA.below hx
    replace VB := VB.below hx
    replace hb0 := bel_tr hb0 hx
    replace hsz := Nat.le_trans hsz (Below.size hx)
    have Vq := var3_new w2 (.bool fq) (.slice cq nq kq) (.slice dq mq lq) 27
    clear hx
    obtain ⟨vac0, vac1, vac2, vac3, vac4, vac5⟩ := id VA
    obtain ⟨vbc0, vbc1, vbc2, vbc3, vbc4, vbc5⟩ := id VB
    go_wp2_with fail
    generalize w2.alloc (.cells #[.bool fq, .slice cq nq kq, .slice dq mq lq] 27) = w3 at *
    refine (quoD _ hA hB (by omega) (by omega) (by omega) hz).mono ?_
    rintro e w4 ⟨fu, cu, nu, ku, du, mu, lu, rfl, Gu, hx⟩
    replace Gu := Gu.mono (B' := w.heap.size + 2) hsz
    clear vac0 vac1 vac2 vac3 vac4 vac5 vbc0 vbc1 vbc2 vbc3 vbc4 vbc5
    replace hA := hA.below hx
    replace hB := hB.below hx
    replace hT := hT.below hx
    replace E := E.below hx
    replace Gq := Gq.below hx
    replace VA := VA.below hx
    replace VB := VB.below hx
    replace Vq := Vq.below hx
    replace hb0 := bel_tr hb0 hx
    replace hsz := Nat.le_trans hsz (Below.size hx)
    clear hx
    have hx := bel_d0 w4 (.cells #[.bool fu, .slice cu nu ku, .slice du mu lu] 27)
    replace hA := hA.below hx
    replace hB := hB.below hx
    replace hT := hT.below hx
    replace E := E.below hx
    replace Gq := Gq.below hx
    replace Gu := Gu.below hx
    replace VA := VA.below hx
    replace VB := VB.below hx
    replace Vq := Vq.below hx
    replace hb0 := bel_tr hb0 hx
    replace hsz := Nat.le_trans hsz (Below.size hx)
    have Vu := var3_new w4 (.bool fu) (.slice cu nu ku) (.slice du mu lu) 27
    clear hx
    obtain ⟨vqc0, vqc1, vqc2, vqc3, vqc4, vqc5⟩ := id Vq
    obtain ⟨vuc0, vuc1, vuc2, vuc3, vuc4, vuc5⟩ := id Vu
    go_wp2_with fail
    generalize w4.alloc (.cells #[.bool fu, .slice cu nu ku, .slice du mu lu] 27) = w5 at *
    refine (toldQ _ Gq Gu rfl (by omega)).mono ?_
    rintro e w6 ⟨rfl, hx⟩
    clear vqc0 vqc1 vqc2 vqc3 vqc4 vqc5 vuc0 vuc1 vuc2 vuc3 vuc4 vuc5
    replace hA := hA.below hx
    replace hB := hB.below hx
    replace hT := hT.below hx
    replace E := E.below hx
    replace Gq := Gq.below hx
    replace Gu := Gu.below hx
    replace VA := VA.below hx
    replace VB := VB.below hx
    replace Vq := Vq.below hx
    replace Vu := Vu.below hx
    replace hb0 := bel_tr hb0 hx
    replace hsz := Nat.le_trans hsz (Below.size hx)
    clear hx
    obtain ⟨vbc0, vbc1, vbc2, vbc3, vbc4, vbc5⟩ := id VB
    clear Vq
    clear Vu
    clear Gq
    clear Gu
    go_wp2_with fail
    refine (invQ _ hB (by omega) (by omega) hz hT).mono ?_
    rintro e w7 ⟨fi, ci, ni, ki, di, mi, li, rfl, Gi, hx⟩
    replace Gi := Gi.mono (B' := w.heap.size + 2) hsz
    clear vbc0 vbc1 vbc2 vbc3 vbc4 vbc5
    replace hA := hA.below hx
    replace hB := hB.below hx
    replace hT := hT.below hx
    replace E := E.below hx
    replace VA := VA.below hx
    replace VB := VB.below hx
    replace hb0 := bel_tr hb0 hx
    replace hsz := Nat.le_trans hsz (Below.size hx)
    clear hx
    have hx := bel_d0 w7 (.cells #[.bool fi, .slice ci ni ki, .slice di mi li] 27)
    replace hA := hA.below hx
    replace hB := hB.below hx
    replace hT := hT.below hx
    replace E := E.below hx
    replace Gi := Gi.below hx
    replace VA := VA.below hx
    replace VB := VB.below hx
    replace hb0 := bel_tr hb0 hx
    replace hsz := Nat.le_trans hsz (Below.size hx)
    have Vi := var3_new w7 (.bool fi) (.slice ci ni ki) (.slice di mi li) 27
    clear hx
    obtain ⟨vbc0, vbc1, vbc2, vbc3, vbc4, vbc5⟩ := id VB
    go_wp2_with fail
    generalize w7.alloc (.cells #[.bool fi, .slice ci ni ki, .slice di mi li] 27) = w8 at *
    refine (invD _ hB (by omega) (by omega) hz).mono ?_
    rintro e w9 ⟨fj, cj, nj, kj, dj, mj, lj, rfl, Gj, hx⟩
    replace Gj := Gj.mono (B' := w.heap.size + 2) hsz
    clear vbc0 vbc1 vbc2 vbc3 vbc4 vbc5
    replace hA := hA.below hx
    replace hB := hB.below hx
    replace hT := hT.below hx
    replace E := E.below hx
    replace Gi := Gi.below hx
    replace VA := VA.below hx
    replace VB := VB.below hx
    replace Vi := Vi.below hx
    replace hb0 := bel_tr hb0 hx
    replace hsz := Nat.le_trans hsz (Below.size hx)
    clear hx
    have hx := bel_d0 w9 (.cells #[.bool fj, .slice cj nj kj, .slice dj mj lj] 27)
    replace hA := hA.below hx
    replace hB := hB.below hx
    replace hT := hT.below hx
    replace E := E.below hx
    replace Gi := Gi.below hx
    replace Gj := Gj.below hx
    replace VA := VA.below hx
    replace VB := VB.below hx
    replace Vi := Vi.below hx
    replace hb0 := bel_tr hb0 hx
    replace hsz := Nat.le_trans hsz (Below.size hx)
    have Vj := var3_new w9 (.bool fj) (.slice cj nj kj) (.slice dj mj lj) 27
    clear hx
    obtain ⟨vic0, vic1, vic2, vic3, vic4, vic5⟩ := id Vi
    obtain ⟨vjc0, vjc1, vjc2, vjc3, vjc4, vjc5⟩ := id Vj
    go_wp2_with fail
    generalize w9.alloc (.cells #[.bool fj, .slice cj nj kj, .slice dj mj lj] 27) = w10 at *
    refine (toldQ _ Gi Gj rfl (by omega)).mono ?_
    rintro e w11 ⟨rfl, hx⟩
    clear vic0 vic1 vic2 vic3 vic4 vic5 vjc0 vjc1 vjc2 vjc3 vjc4 vjc5
    replace hA := hA.below hx
    replace hB := hB.below hx
    replace hT := hT.below hx
    replace E := E.below hx
    replace Gi := Gi.below hx
    replace Gj := Gj.below hx
    replace VA := VA.below hx
    replace VB := VB.below hx
    replace Vi := Vi.below hx
    replace Vj := Vj.below hx
    replace hb0 := bel_tr hb0 hx
    replace hsz := Nat.le_trans hsz (Below.size hx)
    clear hx
    go_wp2
    go_ret
    exact ⟨rfl, hb0⟩
end Go.Proofs.YtpngkbljalnfjaaGreatDoor

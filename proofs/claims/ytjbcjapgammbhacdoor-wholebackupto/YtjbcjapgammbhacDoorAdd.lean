import Derived.Test.YtjbcjapgammbhacDoorSum
namespace Go.Proofs.YtjbcjapgammbhacDoor
open Go.RowKit

theorem ret_slice2 {a : Option Addr} {n m c d : Nat} (h : n = m) (k : c = d) : Ending.returned (.slice a n c) = .returned (.slice a m d) := by rw [h, k]

set_option maxHeartbeats 600000 in
theorem add_any (a b : Option Addr) (na nb ca cb : Nat) (xs ys : List Int) (w : World) (hna : na = xs.length) (hnb : nb = ys.length) (hla : na ≤ ca) (hlb : nb ≤ cb)
    (hma : na ≤ 1000000000000) (hmb : nb ≤ 1000000000000) (hra : Reads w a xs) (hrb : Reads w b ys) (hx : AllW xs) (hy : AllW ys) :
    Calls Tryd.prog 24 #[.slice a na ca, .slice b nb cb] w fun e w' => Res w w' e (addL xs ys) := by
  have ta : tlen xs ≤ xs.length := tl_le _ _
  have tb : tlen ys ≤ ys.length := tl_le _ _
  subst hna hnb
  go_enter Tryd.func24, Tryd.ntmps24
  go_wp2_with fail
  refine (trim_any a _ ca xs _ rfl hla (by omega) hra).mono ?_
  rintro e w1 ⟨rfl, rfl⟩
  go_wp2_with fail
  refine (trim_any b _ cb ys _ rfl hlb (by omega) hrb).mono ?_
  rintro e w1 ⟨rfl, rfl⟩
  by_cases hlt : tlen xs < tlen ys
  · have hlt' : (tlen xs : Int) < (tlen ys : Int) := by omega
    have HL : Hid ((trimL ys).length = tlen ys) := length_trimL ys
    have HS : Hid (addL xs ys = addF (trimL ys ++ [0]) 0 (tlen ys + 1) (trimL xs)) := by show _ = _; unfold addL; rw [if_pos hlt]
    go_wp2_with (at_make; refine wpList_makeB _ rfl _ _ rfl _ _ (tlen ys + 1) rfl rfl (by omega) (by omega) (by omega) ?_)
    intro w1 hb1 hbel1
    go_wp2_with (refine wpList_copyB rfl _ _ rfl w.heap.size _ _ _ _ b rfl rfl (List.replicate (tlen ys + 1) 0) (trimL ys) hb1 ((hrb.below hbel1).take _) HL.out.symm (by rw [HL.out]; omega) (by simp) w.heap.size w hbel1 (Nat.le_refl _) ?_)
    intro w2 hb2 hbel2
    have hb2' : Blk w2 w.heap.size (trimL ys ++ [0]) := by
      rw [HL.out, rep_one] at hb2; exact hb2
    clear hb2 hb1
    go_wp2_with fail
    refine (addTo_any w.heap.size 0 (tlen ys + 1) _ (trimL ys ++ [0]) a (tlen xs) ca (trimL xs) w2 hb2' (by simp [HL.out]) (by simp [HL.out]; omega) ((hy.take _).append (AllW.replicate 1)) (length_trimL xs).symm (by omega) ((hra.below hbel2).take _) (fun hne p hp => ?haw) (hx.take _)).mono ?_
    case haw => have := (hra.take (tlen xs)).lt hne p hp; omega
    rintro e w3 ⟨rfl, hb3, hoff⟩
    have hbel3 : Below w.heap.size w w3 := hbel2.trans (hoff.below (Nat.le_refl _))
    rw [← HS.out] at hb3
    have HL2 : Hid ((addL xs ys).length = tlen ys + 1) := (congrArg List.length HS.out).trans (by rw [length_addF, List.length_append, HL.out]; rfl)
    clear hoff hb2' hbel2 hbel1
    go_wp2_with fail
    refine (trim_any (some ⟨w.heap.size, 0, none⟩) (tlen ys + 1) (tlen ys + 1) (addL xs ys) w3 HL2.out.symm (Nat.le_refl _) (by omega) hb3.reads').mono ?_
    rintro e w4 ⟨rfl, rfl⟩
    go_wp2
    go_ret
    exact ⟨w.heap.size, ret_slice2 rfl HL2.out.symm, Nat.le_refl _, hb3, hbel3⟩
  · have hlt' : ¬ (tlen xs : Int) < (tlen ys : Int) := by omega
    have HL : Hid ((trimL xs).length = tlen xs) := length_trimL xs
    have HS : Hid (addL xs ys = addF (trimL xs ++ [0]) 0 (tlen xs + 1) (trimL ys)) := by show _ = _; unfold addL; rw [if_neg hlt]
    go_wp2_with (at_make; refine wpList_makeB _ rfl _ _ rfl _ _ (tlen xs + 1) rfl rfl (by omega) (by omega) (by omega) ?_)
    intro w1 hb1 hbel1
    go_wp2_with (refine wpList_copyB rfl _ _ rfl w.heap.size _ _ _ _ a rfl rfl (List.replicate (tlen xs + 1) 0) (trimL xs) hb1 ((hra.below hbel1).take _) HL.out.symm (by rw [HL.out]; omega) (by simp) w.heap.size w hbel1 (Nat.le_refl _) ?_)
    intro w2 hb2 hbel2
    have hb2' : Blk w2 w.heap.size (trimL xs ++ [0]) := by
      rw [HL.out, rep_one] at hb2; exact hb2
    clear hb2 hb1
    go_wp2_with fail
    refine (addTo_any w.heap.size 0 (tlen xs + 1) _ (trimL xs ++ [0]) b (tlen ys) cb (trimL ys) w2 hb2' (by simp [HL.out]) (by simp [HL.out]; omega) ((hx.take _).append (AllW.replicate 1)) (length_trimL ys).symm (by omega) ((hrb.below hbel2).take _) (fun hne p hp => ?haw) (hy.take _)).mono ?_
    case haw => have := (hrb.take (tlen ys)).lt hne p hp; omega
    rintro e w3 ⟨rfl, hb3, hoff⟩
    have hbel3 : Below w.heap.size w w3 := hbel2.trans (hoff.below (Nat.le_refl _))
    rw [← HS.out] at hb3
    have HL2 : Hid ((addL xs ys).length = tlen xs + 1) := (congrArg List.length HS.out).trans (by rw [length_addF, List.length_append, HL.out]; rfl)
    clear hoff hb2' hbel2 hbel1
    go_wp2_with fail
    refine (trim_any (some ⟨w.heap.size, 0, none⟩) (tlen xs + 1) (tlen xs + 1) (addL xs ys) w3 HL2.out.symm (Nat.le_refl _) (by omega) hb3.reads').mono ?_
    rintro e w4 ⟨rfl, rfl⟩
    go_wp2
    go_ret
    exact ⟨w.heap.size, ret_slice2 rfl HL2.out.symm, Nat.le_refl _, hb3, hbel3⟩
end Go.Proofs.YtjbcjapgammbhacDoor

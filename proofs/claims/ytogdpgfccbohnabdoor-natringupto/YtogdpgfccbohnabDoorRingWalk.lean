import Derived.Test.YtogdpgfccbohnabDoorLike
namespace Go.Proofs.YtogdpgfccbohnabDoor
open Go.RowKit

set_option maxHeartbeats 4000000 in
theorem ring_walk (a b c : Option Addr) (na nb nc ca cb cc : Nat) (x y z : Int) (w : World) (Ha : Num w a na ca x 1048576) (Hb : Num w b nb cb y 1048576) (Hc : Num w c nc cc z 1048576) :
    Calls Tryd.prog 8 #[.slice a na ca, .slice b nb cb, .slice c nc cc] w fun e w' => e = .returned (.bool true) ∧ Below w.heap.size w w' := by
  have HT : Below w.heap.size w w := Below.refl _ _
  go_enter Tryd.func8, Tryd.ntmps8
  go_wp2_with fail
  refine (awake_any _).mono ?_
  rintro e w1 ⟨rfl, hb⟩
  replace Ha := Ha.below hb
  replace Hb := Hb.below hb
  replace Hc := Hc.below hb
  replace HT := bel_tr HT hb
  clear hb
  go_wp2_with fail
  refine (addV _ Ha Hb (by omega) (by omega)).mono ?_
  rintro e w2 ⟨t1, nt1, ct1, rfl, Ht1, hb⟩
  replace Ha := Ha.below hb
  replace Hb := Hb.below hb
  replace Hc := Hc.below hb
  replace HT := bel_tr HT hb
  clear hb
  go_wp2_with fail
  refine (addV _ Hb Ha (by omega) (by omega)).mono ?_
  rintro e w3 ⟨t2, nt2, ct2, rfl, Ht2, hb⟩
  replace Ha := Ha.below hb
  replace Hb := Hb.below hb
  replace Hc := Hc.below hb
  replace Ht1 := Ht1.below hb
  replace HT := bel_tr HT hb
  clear hb
  go_wp2_with fail
  refine (likeV _ Ht1 Ht2 (by omega) (by omega) (Int.add_comm _ _)).mono ?_
  rintro e w4 ⟨rfl, hb⟩
  replace Ha := Ha.below hb
  replace Hb := Hb.below hb
  replace Hc := Hc.below hb
  replace Ht1 := Ht1.below hb
  replace Ht2 := Ht2.below hb
  replace HT := bel_tr HT hb
  clear hb
  clear Ht1 Ht2
  go_wp2_with fail
  refine (mulV _ Ha Hb (by omega) (by omega)).mono ?_
  rintro e w5 ⟨t3, nt3, ct3, rfl, Ht3, hb⟩
  replace Ha := Ha.below hb
  replace Hb := Hb.below hb
  replace Hc := Hc.below hb
  replace HT := bel_tr HT hb
  clear hb
  go_wp2_with fail
  refine (mulV _ Hb Ha (by omega) (by omega)).mono ?_
  rintro e w6 ⟨t4, nt4, ct4, rfl, Ht4, hb⟩
  replace Ha := Ha.below hb
  replace Hb := Hb.below hb
  replace Hc := Hc.below hb
  replace Ht3 := Ht3.below hb
  replace HT := bel_tr HT hb
  clear hb
  go_wp2_with fail
  refine (likeV _ Ht3 Ht4 (by omega) (by omega) (Int.mul_comm _ _)).mono ?_
  rintro e w7 ⟨rfl, hb⟩
  replace Ha := Ha.below hb
  replace Hb := Hb.below hb
  replace Hc := Hc.below hb
  replace Ht3 := Ht3.below hb
  replace Ht4 := Ht4.below hb
  replace HT := bel_tr HT hb
  clear hb
  clear Ht3 Ht4
  go_wp2_with fail
  refine (addV _ Ha Hb (by omega) (by omega)).mono ?_
  rintro e w8 ⟨t5, nt5, ct5, rfl, Ht5, hb⟩
  replace Ha := Ha.below hb
  replace Hb := Hb.below hb
  replace Hc := Hc.below hb
  replace HT := bel_tr HT hb
  clear hb
  go_wp2_with fail
  refine (addV _ Ht5 Hc (by omega) (by omega)).mono ?_
  rintro e w9 ⟨t6, nt6, ct6, rfl, Ht6, hb⟩
  replace Ha := Ha.below hb
  replace Hb := Hb.below hb
  replace Hc := Hc.below hb
  replace Ht5 := Ht5.below hb
  replace HT := bel_tr HT hb
  clear hb
  go_wp2_with fail
  refine (addV _ Hb Hc (by omega) (by omega)).mono ?_
  rintro e w10 ⟨t7, nt7, ct7, rfl, Ht7, hb⟩
  replace Ha := Ha.below hb
  replace Hb := Hb.below hb
  replace Hc := Hc.below hb
  replace Ht5 := Ht5.below hb
  replace Ht6 := Ht6.below hb
  replace HT := bel_tr HT hb
  clear hb
  go_wp2_with fail
  refine (addV _ Ha Ht7 (by omega) (by omega)).mono ?_
  rintro e w11 ⟨t8, nt8, ct8, rfl, Ht8, hb⟩
  replace Ha := Ha.below hb
  replace Hb := Hb.below hb
  replace Hc := Hc.below hb
  replace Ht5 := Ht5.below hb
  replace Ht6 := Ht6.below hb
  replace Ht7 := Ht7.below hb
  replace HT := bel_tr HT hb
  clear hb
  go_wp2_with fail
  refine (likeV _ Ht6 Ht8 (by omega) (by omega) (Int.add_assoc _ _ _)).mono ?_
  rintro e w12 ⟨rfl, hb⟩
  replace Ha := Ha.below hb
  replace Hb := Hb.below hb
  replace Hc := Hc.below hb
  replace Ht5 := Ht5.below hb
  replace Ht6 := Ht6.below hb
  replace Ht7 := Ht7.below hb
  replace Ht8 := Ht8.below hb
  replace HT := bel_tr HT hb
  clear hb
  clear Ht5 Ht6 Ht7 Ht8
  go_wp2_with fail
  refine (mulV _ Ha Hb (by omega) (by omega)).mono ?_
  rintro e w13 ⟨u1, nu1, cu1, rfl, Hu1, hb⟩
  replace Ha := Ha.below hb
  replace Hb := Hb.below hb
  replace Hc := Hc.below hb
  replace HT := bel_tr HT hb
  clear hb
  go_wp2_with fail
  refine (mulV _ Hu1 Hc (by omega) (by omega)).mono ?_
  rintro e w14 ⟨u2, nu2, cu2, rfl, Hu2, hb⟩
  replace Ha := Ha.below hb
  replace Hb := Hb.below hb
  replace Hc := Hc.below hb
  replace Hu1 := Hu1.below hb
  replace HT := bel_tr HT hb
  clear hb
  go_wp2_with fail
  refine (mulV _ Hb Hc (by omega) (by omega)).mono ?_
  rintro e w15 ⟨u3, nu3, cu3, rfl, Hu3, hb⟩
  replace Ha := Ha.below hb
  replace Hb := Hb.below hb
  replace Hc := Hc.below hb
  replace Hu1 := Hu1.below hb
  replace Hu2 := Hu2.below hb
  replace HT := bel_tr HT hb
  clear hb
  go_wp2_with fail
  refine (mulV _ Ha Hu3 (by omega) (by omega)).mono ?_
  rintro e w16 ⟨u4, nu4, cu4, rfl, Hu4, hb⟩
  replace Ha := Ha.below hb
  replace Hb := Hb.below hb
  replace Hc := Hc.below hb
  replace Hu1 := Hu1.below hb
  replace Hu2 := Hu2.below hb
  replace Hu3 := Hu3.below hb
  replace HT := bel_tr HT hb
  clear hb
  go_wp2_with fail
  refine (likeV _ Hu2 Hu4 (by omega) (by omega) (Int.mul_assoc _ _ _)).mono ?_
  rintro e w17 ⟨rfl, hb⟩
  replace Ha := Ha.below hb
  replace Hb := Hb.below hb
  replace Hc := Hc.below hb
  replace Hu1 := Hu1.below hb
  replace Hu2 := Hu2.below hb
  replace Hu3 := Hu3.below hb
  replace Hu4 := Hu4.below hb
  replace HT := bel_tr HT hb
  clear hb
  clear Hu1 Hu2 Hu3 Hu4
  go_wp2_with fail
  refine (addV _ Hb Hc (by omega) (by omega)).mono ?_
  rintro e w18 ⟨v1, nv1, cv1, rfl, Hv1, hb⟩
  replace Ha := Ha.below hb
  replace Hb := Hb.below hb
  replace Hc := Hc.below hb
  replace HT := bel_tr HT hb
  clear hb
  go_wp2_with fail
  refine (mulV _ Ha Hv1 (by omega) (by omega)).mono ?_
  rintro e w19 ⟨v2, nv2, cv2, rfl, Hv2, hb⟩
  replace Ha := Ha.below hb
  replace Hb := Hb.below hb
  replace Hc := Hc.below hb
  replace Hv1 := Hv1.below hb
  replace HT := bel_tr HT hb
  clear hb
  go_wp2_with fail
  refine (mulV _ Ha Hb (by omega) (by omega)).mono ?_
  rintro e w20 ⟨v3, nv3, cv3, rfl, Hv3, hb⟩
  replace Ha := Ha.below hb
  replace Hb := Hb.below hb
  replace Hc := Hc.below hb
  replace Hv1 := Hv1.below hb
  replace Hv2 := Hv2.below hb
  replace HT := bel_tr HT hb
  clear hb
  go_wp2_with fail
  refine (mulV _ Ha Hc (by omega) (by omega)).mono ?_
  rintro e w21 ⟨v4, nv4, cv4, rfl, Hv4, hb⟩
  replace Ha := Ha.below hb
  replace Hb := Hb.below hb
  replace Hc := Hc.below hb
  replace Hv1 := Hv1.below hb
  replace Hv2 := Hv2.below hb
  replace Hv3 := Hv3.below hb
  replace HT := bel_tr HT hb
  clear hb
  go_wp2_with fail
  refine (addV _ Hv3 Hv4 (by omega) (by omega)).mono ?_
  rintro e w22 ⟨v5, nv5, cv5, rfl, Hv5, hb⟩
  replace Ha := Ha.below hb
  replace Hb := Hb.below hb
  replace Hc := Hc.below hb
  replace Hv1 := Hv1.below hb
  replace Hv2 := Hv2.below hb
  replace Hv3 := Hv3.below hb
  replace Hv4 := Hv4.below hb
  replace HT := bel_tr HT hb
  clear hb
  go_wp2_with fail
  refine (likeV _ Hv2 Hv5 (by omega) (by omega) (Int.mul_add _ _ _)).mono ?_
  rintro e w23 ⟨rfl, hb⟩
  replace Ha := Ha.below hb
  replace Hb := Hb.below hb
  replace Hc := Hc.below hb
  replace Hv1 := Hv1.below hb
  replace Hv2 := Hv2.below hb
  replace Hv3 := Hv3.below hb
  replace Hv4 := Hv4.below hb
  replace Hv5 := Hv5.below hb
  replace HT := bel_tr HT hb
  clear hb
  clear Hv1 Hv2 Hv3 Hv4 Hv5
  go_wp2_with fail
  refine (addV _ Ha (Num.nil _) (by omega) (by omega)).mono ?_
  rintro e w24 ⟨x1, nx1, cx1, rfl, Hx1, hb⟩
  replace Ha := Ha.below hb
  replace Hb := Hb.below hb
  replace Hc := Hc.below hb
  replace HT := bel_tr HT hb
  clear hb
  go_wp2_with fail
  refine (likeV _ Hx1 Ha (by omega) (by omega) (Int.add_zero _)).mono ?_
  rintro e w25 ⟨rfl, hb⟩
  replace Ha := Ha.below hb
  replace Hb := Hb.below hb
  replace Hc := Hc.below hb
  replace Hx1 := Hx1.below hb
  replace HT := bel_tr HT hb
  clear hb
  clear Hx1
  go_wp2_with fail
  refine (ofV 1 _ (by omega) (by omega)).mono ?_
  rintro e w26 ⟨x2, nx2, cx2, rfl, Hx2, hb⟩
  replace Ha := Ha.below hb
  replace Hb := Hb.below hb
  replace Hc := Hc.below hb
  replace HT := bel_tr HT hb
  clear hb
  go_wp2_with fail
  refine (mulV _ Ha Hx2 (by omega) (by omega)).mono ?_
  rintro e w27 ⟨x3, nx3, cx3, rfl, Hx3, hb⟩
  replace Ha := Ha.below hb
  replace Hb := Hb.below hb
  replace Hc := Hc.below hb
  replace Hx2 := Hx2.below hb
  replace HT := bel_tr HT hb
  clear hb
  go_wp2_with fail
  refine (likeV _ Hx3 Ha (by omega) (by omega) (Int.mul_one _)).mono ?_
  rintro e w28 ⟨rfl, hb⟩
  replace Ha := Ha.below hb
  replace Hb := Hb.below hb
  replace Hc := Hc.below hb
  replace Hx2 := Hx2.below hb
  replace Hx3 := Hx3.below hb
  replace HT := bel_tr HT hb
  clear hb
  clear Hx2 Hx3
  go_wp2_with fail
  refine (mulV _ Ha (Num.nil _) (by omega) (by omega)).mono ?_
  rintro e w29 ⟨x4, nx4, cx4, rfl, Hx4, hb⟩
  replace Ha := Ha.below hb
  replace Hb := Hb.below hb
  replace Hc := Hc.below hb
  replace HT := bel_tr HT hb
  clear hb
  go_wp2_with fail
  refine (bitsV0 _ Hx4 (by omega) (Int.mul_zero _)).mono ?_
  rintro e w30 ⟨rfl, rfl⟩
  clear Hx4
  go_wp2_with fail
  refine (addV _ Ha Hb (by omega) (by omega)).mono ?_
  rintro e w31 ⟨y1, ny1, cy1, rfl, Hy1, hb⟩
  replace Ha := Ha.below hb
  replace Hb := Hb.below hb
  replace Hc := Hc.below hb
  replace HT := bel_tr HT hb
  clear hb
  go_wp2_with fail
  refine (subV _ Hy1 Hb (by omega) (by omega) (by have := Ha.nn; omega)).mono ?_
  rintro e w32 ⟨y2, ny2, cy2, rfl, Hy2, hb⟩
  clear Hy1
  replace Ha := Ha.below hb
  replace Hb := Hb.below hb
  replace Hc := Hc.below hb
  replace HT := bel_tr HT hb
  clear hb
  go_wp2_with fail
  refine (likeV _ Hy2 Ha (by omega) (by omega) (Int.add_sub_cancel _ _)).mono ?_
  rintro e w33 ⟨rfl, hb⟩
  replace Ha := Ha.below hb
  replace Hb := Hb.below hb
  replace Hc := Hc.below hb
  replace Hy2 := Hy2.below hb
  replace HT := bel_tr HT hb
  clear hb
  go_wp2
  go_ret
  exact ⟨rfl, HT⟩
end Go.Proofs.YtogdpgfccbohnabDoor

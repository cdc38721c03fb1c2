import Derived.Test.YtogdpgfccbohnaaDoorRefCmp
namespace Go.Proofs.YtogdpgfccbohnaaDoor
open Go.RowKit

theorem Lnt.num {w : World} {r gf cf gw cw n : Nat} {xs : List Int} (h : Lnt w r gf cf gw cw n (lendL xs) (lendL xs)) (hn : n = xs.length) (hx : AllW xs) {S : Nat} (hS : n ≤ S) : Num w (some ⟨gf, 0, none⟩) n cf (val xs) S := by
  subst hn
  have := h.rf.take xs.length
  have e : (lendL xs).take xs.length = xs := by unfold lendL; rw [List.take_append_of_le_length (Nat.le_refl _), List.take_length]
  rw [e] at this
  exact ⟨xs, rfl, this.le, this.reads, hx, rfl, hS⟩

set_option maxHeartbeats 2000000 in
theorem orders_walk (a b : Option Addr) (na nb ca cb : Nat) (xs ys : List Int) (w : World) (hna : na = xs.length) (hnb : nb = ys.length) (hla : na ≤ ca) (hlb : nb ≤ cb) (hma : na ≤ 1048576) (hmb : nb ≤ 1048576) (hra : Reads w a xs) (hrb : Reads w b ys) (hx : AllW xs) (hy : AllW ys) :
    Calls Tryd.prog 4 #[.slice a na ca, .slice b nb cb] w fun e w' => e = .returned (.bool true) ∧ Below w.heap.size w w' := by
  have Hna : Hid (na = xs.length) := hna
  have Hnb : Hid (nb = ys.length) := hnb
  have hlx := length_lendL xs
  have hly := length_lendL ys
  have HLX : (lendL xs).length ≤ 1000000000000 := by omega
  have HLY : (lendL ys).length ≤ 1000000000000 := by omega
  clear hna hnb hlx hly
  go_enter Tryd.func4, Tryd.ntmps4
  go_wp2_with fail
  refine (awake_any _).mono ?_
  rintro e w1 ⟨rfl, HT⟩
  replace hra := hra.below HT
  replace hrb := hrb.below HT
  go_wp2_with fail
  refine (lend_any a na ca xs _ Hna.out hla (by omega) hra).mono ?_
  rintro e w2 ⟨gf, cf, gw, cw, rfl, L1, hb⟩
  replace hra := hra.below hb
  replace hrb := hrb.below hb
  replace HT := bel_tr HT hb
  clear hb
  generalize w1.heap.size = r1 at *
  go_wp2_with fail
  refine (lend_any b nb cb ys _ Hnb.out hlb (by omega) hrb).mono ?_
  rintro e w3 ⟨gf2, cf2, gw2, cw2, rfl, L2, hb⟩
  replace hra := hra.below hb
  replace hrb := hrb.below hb
  replace HT := bel_tr HT hb
  replace L1 := L1.below hb
  clear hb
  generalize w2.heap.size = r2 at *
  go_wp2_with fail
  refine (lnat_any _ r1 gf cf gw cw na _ _ L1).mono ?_
  rintro e w4 ⟨rfl, m, hm⟩
  have hb : Below w3.heap.size w3 w4 := by rw [hm]; exact belN (Below.refl _ _) m
  replace hra := hra.below hb
  replace hrb := hrb.below hb
  replace HT := bel_tr HT hb
  replace L1 := L1.below hb
  replace L2 := L2.below hb
  clear hb hm m
  go_wp2_with fail
  refine (lnat_any _ r2 gf2 cf2 gw2 cw2 nb _ _ L2).mono ?_
  rintro e w5 ⟨rfl, m, hm⟩
  have hb : Below w4.heap.size w4 w5 := by rw [hm]; exact belN (Below.refl _ _) m
  replace hra := hra.below hb
  replace hrb := hrb.below hb
  replace HT := bel_tr HT hb
  replace L1 := L1.below hb
  replace L2 := L2.below hb
  clear hb hm m
  go_wp2_with fail
  refine (cmpV _ (L1.num Hna.out hx hma) (L2.num Hnb.out hy hmb) (by omega) (by omega)).mono ?_
  rintro e w6 ⟨c, rfl, hc, m, hm⟩
  have hb : Below w5.heap.size w5 w6 := by rw [hm]; exact belN (Below.refl _ _) m
  replace hra := hra.below hb
  replace hrb := hrb.below hb
  replace HT := bel_tr HT hb
  replace L1 := L1.below hb
  replace L2 := L2.below hb
  have HC : Hid ((c = 0 ∧ val xs = val ys) ∨ (c = -1 ∧ val xs < val ys) ∨ (c = 1 ∧ val ys < val xs)) := hc
  clear hb hm m hc
  go_wp2_with fail
  refine (lnat_any _ r2 gf2 cf2 gw2 cw2 nb _ _ L2).mono ?_
  rintro e w7 ⟨rfl, m, hm⟩
  have hb : Below w6.heap.size w6 w7 := by rw [hm]; exact belN (Below.refl _ _) m
  replace hra := hra.below hb
  replace hrb := hrb.below hb
  replace HT := bel_tr HT hb
  replace L1 := L1.below hb
  replace L2 := L2.below hb
  clear hb hm m
  go_wp2_with fail
  refine (lnat_any _ r1 gf cf gw cw na _ _ L1).mono ?_
  rintro e w8 ⟨rfl, m, hm⟩
  have hb : Below w7.heap.size w7 w8 := by rw [hm]; exact belN (Below.refl _ _) m
  replace hra := hra.below hb
  replace hrb := hrb.below hb
  replace HT := bel_tr HT hb
  replace L1 := L1.below hb
  replace L2 := L2.below hb
  clear hb hm m
  go_wp2_with fail
  refine (cmpV _ (L2.num Hnb.out hy hmb) (L1.num Hna.out hx hma) (by omega) (by omega)).mono ?_
  rintro e w9 ⟨d, rfl, hd, m, hm⟩
  have hb : Below w8.heap.size w8 w9 := by rw [hm]; exact belN (Below.refl _ _) m
  replace hra := hra.below hb
  replace hrb := hrb.below hb
  replace HT := bel_tr HT hb
  replace L1 := L1.below hb
  replace L2 := L2.below hb
  have HD : Hid ((d = 0 ∧ val ys = val xs) ∨ (d = -1 ∧ val ys < val xs) ∨ (d = 1 ∧ val xs < val ys)) := hd
  clear hb hm m hd
  go_wp2_with fail
  refine (refcmpV _ ⟨xs, Hna.out, hla, hra, hx, rfl, hma⟩ ⟨ys, Hnb.out, hlb, hrb, hy, rfl, hmb⟩ (by omega) (by omega)).mono ?_
  rintro e w10 ⟨f, rfl, hf, hb⟩
  replace HT := bel_tr HT hb
  replace L1 := L1.below hb
  replace L2 := L2.below hb
  have HF : Hid ((f = 0 ∧ c = 0 ∧ d = 0) ∨ (f = 1 ∧ c = 1 ∧ d = -1) ∨ (f = -1 ∧ c = -1 ∧ d = 1)) := by have := HC.out; have := HD.out; show _ ∨ _; omega
  clear hb hf hra hrb HC HD
  go_wp2_with fail
  refine (kept_any _ r1 gf cf gw cw na _ _ L1 HLX rfl).mono ?_
  rintro e w11 ⟨rfl, m, hm⟩
  have hb : Below w10.heap.size w10 w11 := by rw [hm]; exact belN (Below.refl _ _) m
  replace HT := bel_tr HT hb
  replace L2 := L2.below hb
  clear hb hm m L1
  go_wp2_with fail
  refine (kept_any _ r2 gf2 cf2 gw2 cw2 nb _ _ L2 HLY rfl).mono ?_
  rintro e w12 ⟨rfl, m, hm⟩
  have hb : Below w11.heap.size w11 w12 := by rw [hm]; exact belN (Below.refl _ _) m
  replace HT := bel_tr HT hb
  clear hb hm m L2
  rcases HF.out with ⟨rfl, rfl, rfl⟩ | ⟨rfl, rfl, rfl⟩ | ⟨rfl, rfl, rfl⟩
  all_goals
    clear HF
    go_wp2
    go_ret
    exact ⟨rfl, HT⟩
end Go.Proofs.YtogdpgfccbohnaaDoor

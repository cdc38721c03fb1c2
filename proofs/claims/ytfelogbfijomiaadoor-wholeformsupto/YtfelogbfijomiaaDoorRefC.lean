import Derived.Test.YtfelogbfijomiaaDoorGot
namespace Go.Proofs.YtfelogbfijomiaaDoor
open Go.RowKit

theorem dig_sub {X Y F : Int} {x y bo P : Int} (h : F - bo * P = X - Y) : F + (x - (y + bo)) * P - 0 * (P * 4294967296) = X + x * P - (Y + y * P) := by
  rw [Int.sub_mul, Int.add_mul]; omega
theorem dig_sub1 {X Y F : Int} {x y bo P : Int} (h : F - bo * P = X - Y) : F + (x + 4294967296 - (y + bo)) * P - 1 * (P * 4294967296) = X + x * P - (Y + y * P) := by
  rw [Int.sub_mul, Int.add_mul, Int.add_mul, Int.mul_comm P 4294967296]; omega
set_option maxHeartbeats 1000000 in
theorem minus_any (a b : Option Addr) (na nb ca cb : Nat) (xs ys : List Int) (w : World) (hna : na = xs.length) (hnb : nb = ys.length) (hma : na ≤ 1000000000000) (hmb : nb ≤ 1000000000000) (hra : Reads w a xs) (hrb : Reads w b ys) (hx : AllH xs) (hy : AllH ys) :
    Calls Tryd.prog 98 #[.slice a na ca, .slice b nb cb] w fun e w' => ∃ c cc out bo, e = .returned (.slice c (tlen out) cc) ∧ out.length = na ∧ tlen out ≤ cc ∧ Reads w' c out ∧ AllH out ∧ 0 ≤ bo ∧ bo ≤ 1 ∧ valH out - bo * pwH na = valH xs - vH ys na ∧ Below w.heap.size w w' := by
  have Hna : Hid (na = xs.length) := hna
  have Hnb : Hid (nb = ys.length) := hnb
  clear hna hnb
  go_enter Tryd.func98, Tryd.ntmps98
  go_wp2
  go_loopw [5, 6, 7] (fun v c i wr => ∃ (k : Nat) (F : List Int) (bo : Int), k ≤ na ∧ i = .int .i64 k ∧ c = .int .u64 bo ∧ OwnV wr w.heap.size v F ∧ F.length = k ∧ AllH F ∧ 0 ≤ bo ∧ bo ≤ 1 ∧ vH F k - bo * pwH k = vH xs k - vH ys k ∧ Below w.heap.size w wr) (fun _ _ i _ => na - (intOf i).toNat)
  case atStart => exact ⟨0, [], 0, Nat.zero_le _, rfl, rfl, OwnV.nil _ _, rfl, AllH.nil, by omega, by omega, by simp [vH], Below.refl _ _⟩
  case round =>
    obtain ⟨k, F, bo, hk, rfl, rfl, hown, hF, hFh, hb0, hb1, hV, hbel⟩ := hrel
    have HF : Hid (F.length = k) := hF
    have HV : Hid (vH F k - bo * pwH k = vH xs k - vH ys k) := hV
    have HFh : Hid (AllH F) := hFh
    clear hF hV hFh
    by_cases hlt : k < na
    · have hkl : (k : Int) < (na : Int) := by omega
      obtain ⟨b1, o1, rfl, hc1⟩ := hra.at (by have := Hna.out; omega)
      have h1 := hc1 k (by have := Hna.out; omega)
      have hb1' := World.block_lt_of_cell? _ _ h1
      have g1 : wr.cell? ⟨b1, o1 + k, none⟩ = some (.int .u64 (lm xs k)) := by rw [hbel.cell (p := ⟨b1, o1 + k, none⟩) (by simpa using hb1')]; exact h1
      obtain ⟨x0, x1⟩ := hx.at k
      obtain ⟨y0, y1⟩ := hy.at k
      have hsz := hbel.size
      have hrow : ∀ q, u5.ownBlock = some q → w.heap.size ≤ q := fun q hq => (hown.lt q hq).1
      have D0 : Hid (vH (F ++ [lm xs k - (lm ys k + bo)]) (k + 1) - 0 * pwH (k + 1) = vH xs (k + 1) - vH ys (k + 1)) := by
        show _ = _
        rw [vH_app _ HF.out, pwH_succ]; exact dig_sub HV.out
      have D1 : Hid (vH (F ++ [lm xs k + 4294967296 - (lm ys k + bo)]) (k + 1) - 1 * pwH (k + 1) = vH xs (k + 1) - vH ys (k + 1)) := by
        show _ = _
        rw [vH_app _ HF.out, pwH_succ]; exact dig_sub1 HV.out
      clear hc1 h1 hx hy
      go_wp2_with fail
      refine (at_any b nb cb ys k wr Hnb.out (by omega) (hrb.below hbel)).mono ?_
      rintro e w1 ⟨rfl, rfl⟩
      clear hra hrb
      generalize lm xs k = X at *
      generalize lm ys k = Y at *
      by_cases hXY : X < Y + bo
      · go_wp2_with (at_builtin; refine wpList_append1 22 Tryd.underlying22 _ rfl _ _ rfl w.heap.size u5 F k HF rfl (hown.alloc _) wr.heap.size _ (X + 4294967296 - (Y + bo)) rfl (cell_new1 rfl) (by omega) (by simp; omega) (wr.heap.size + 1) (by simp) ?_)
        intro g cap1 w1 hown1 hgrow _ _
        have hbel1 : Below w.heap.size w w1 := hbel.trans (((Below.refl _ _).alloc (by omega) _).trans (grown_below hgrow (by simp; omega) hrow))
        clear hgrow hown
        go_wp2
        go_roundw
        case rel => exact ⟨k + 1, _, 1, by omega, by go_num, rfl, hown1, by simp [HF.out], allH_app HFh.out (by omega) (by omega), by omega, by omega, D1.out, hbel1⟩
        case measure => simp [intOf]; omega
      · go_wp2_with (at_builtin; refine wpList_append1 22 Tryd.underlying22 _ rfl _ _ rfl w.heap.size u5 F k HF rfl (hown.alloc _) wr.heap.size _ (X - (Y + bo)) rfl (cell_new1 rfl) (by omega) (by simp; omega) (wr.heap.size + 1) (by simp) ?_)
        intro g cap1 w1 hown1 hgrow _ _
        have hbel1 : Below w.heap.size w w1 := hbel.trans (((Below.refl _ _).alloc (by omega) _).trans (grown_below hgrow (by simp; omega) hrow))
        clear hgrow hown
        go_wp2
        go_roundw
        case rel => exact ⟨k + 1, _, 0, by omega, by go_num, rfl, hown1, by simp [HF.out], allH_app HFh.out (by omega) (by omega), by omega, by omega, D0.out, hbel1⟩
        case measure => simp [intOf]; omega
    · obtain rfl : k = na := by omega
      have hkl : ¬ (k : Int) < (k : Int) := by omega
      obtain ⟨c, cc, rfl⟩ := own_form hown HF.out
      obtain ⟨h1, h2, h3⟩ := hown.reads
      have hle : tlen F ≤ F.length := tl_le _ _
      have HE : Hid (valH F - bo * pwH k = valH xs - vH ys k) := by
        show _ = _
        have e1 : valH F = vH F k := by unfold valH; rw [HF.out]
        have e2 : valH xs = vH xs k := by unfold valH; rw [← Hna.out]
        rw [e1, e2]; exact HV.out
      have hle2 : tlen F ≤ cc := by omega
      have hm2 : k ≤ 1099511627776 := by omega
      clear hra hrb hx hy h1 hle
      go_wp2_with fail
      refine (rcut_any c k cc F wr HF.out.symm h2 hm2 h3).mono ?_
      rintro e w1 ⟨rfl, rfl⟩
      go_wp2
      go_ret
      exact ⟨c, cc, F, bo, rfl, HF.out, hle2, h3, HFh.out, hb0, hb1, HE.out, hbel⟩
theorem minusV {a b : Option Addr} {na nb ca cb : Nat} {x y : Int} {S R : Nat} (w : World) (ha : HNum w a na ca x S) (hb : HNum w b nb cb y R) (hS : S ≤ 1000000000000) (hR : R ≤ 1000000000000) (hxy : y ≤ x) :
    Calls Tryd.prog 98 #[.slice a na ca, .slice b nb cb] w fun e w' => ∃ c n cc, e = .returned (.slice c n cc) ∧ HNum w' c n cc (x - y) S ∧ Below w.heap.size w w' := by
  obtain ⟨xs, a1, a2, a3, a4, a5, a6, a7⟩ := ha
  obtain ⟨ys, b1, b2, b3, b4, b5, b6, b7⟩ := hb
  have hle := tlenH_mono b4 a4 (by omega)
  refine (minus_any a b na nb ca cb xs ys w a1 b1 (by omega) (by omega) a3 b3 a4 b4).mono ?_
  rintro e w' ⟨c, cc, out, bo, rfl, h1, h2, h3, h4, h5, h6, h7, h8⟩
  have hv2 : vH ys na = y := by rw [vH_long (by omega), b5]
  have hlt := valH_lt h4
  have hnn := valH_nn h4
  rw [h1] at hlt
  have hp := pwH_pos na
  have hto : tlen out ≤ out.length := tl_le _ _
  have hv : valH out = x - y := by
    rcases (by omega : bo = 0 ∨ bo = 1) with rfl | rfl
    · omega
    · omega
  refine ⟨c, _, cc, rfl, ?_, h8⟩
  rw [← hv]
  exact HNum.of_trim h3 h2 h4 (by omega)

set_option maxHeartbeats 400000 in
theorem rcmpV {a b : Option Addr} {na nb ca cb : Nat} {x y : Int} {S R : Nat} (w : World) (ha : HNum w a na ca x S) (hb : HNum w b nb cb y R) (hS : S ≤ 1000000000000) (hR : R ≤ 1000000000000) :
    Calls Tryd.prog 83 #[.slice a na ca, .slice b nb cb] w fun e w' => ∃ c : Int, e = .returned (.int .i64 c) ∧ ((c = 0 ∧ x = y) ∨ (c = -1 ∧ x < y) ∨ (c = 1 ∧ y < x)) ∧ Below w.heap.size w w' := by
  obtain ⟨xs, a1, a2, a3, a4, a5, a6, a7⟩ := ha
  obtain ⟨ys, b1, b2, b3, b4, b5, b6, b7⟩ := hb
  refine (rcmp_any a b na nb ca cb xs ys w a1 b1 (by omega) (by omega) a3 b3).mono ?_
  rintro e w' ⟨rfl, m, rfl⟩
  refine ⟨_, rfl, ?_, belN (Below.refl _ _) m⟩
  have e : rcmpL xs ys = cmpL xs ys := by unfold rcmpL cmpL; rw [a7, b7]
  have := cmpLH_val a4 b4
  rw [e, ← a5, ← b5]
  exact this

end Go.Proofs.YtfelogbfijomiaaDoor

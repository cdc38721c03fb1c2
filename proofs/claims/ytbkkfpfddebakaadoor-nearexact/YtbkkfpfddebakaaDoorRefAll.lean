import Derived.Test.YtbkkfpfddebakaaDoorLentAll
import Derived.Test.YtbkkfpfddebakaaDoorLent
namespace Go.Proofs.YtbkkfpfddebakaaDoor
open Go.RowKit

theorem dig_sub {X Y F : Int} {x y bo P : Int} (h : F - bo * P = X - Y) : F + (x - (y + bo)) * P - 0 * (P * 4294967296) = X + x * P - (Y + y * P) := by
  rw [Int.sub_mul, Int.add_mul]; omega
theorem dig_sub1 {X Y F : Int} {x y bo P : Int} (h : F - bo * P = X - Y) : F + (x + 4294967296 - (y + bo)) * P - 1 * (P * 4294967296) = X + x * P - (Y + y * P) := by
  rw [Int.sub_mul, Int.add_mul, Int.add_mul, Int.mul_comm P 4294967296]; omega
set_option maxHeartbeats 1000000 in
theorem minus_any (a b : Option Addr) (na nb ca cb : Nat) (xs ys : List Int) (w : World) (hna : na = xs.length) (hnb : nb = ys.length) (hma : na ≤ 1000000000000) (hmb : nb ≤ 1000000000000) (hra : Reads w a xs) (hrb : Reads w b ys) (hx : AllH xs) (hy : AllH ys) :
    Calls Tryd.prog 59 #[.slice a na ca, .slice b nb cb] w fun e w' => ∃ c cc out bo, e = .returned (.slice c (tlen out) cc) ∧ out.length = na ∧ tlen out ≤ cc ∧ Reads w' c out ∧ AllH out ∧ 0 ≤ bo ∧ bo ≤ 1 ∧ valH out - bo * pwH na = valH xs - vH ys na ∧ Below w.heap.size w w' := by
  have Hna : Hid (na = xs.length) := hna
  have Hnb : Hid (nb = ys.length) := hnb
  clear hna hnb
  go_enter Tryd.func59, Tryd.ntmps59
  go_wp2
  go_loopw [5, 6, 7] (fun v c i wr => ∃ (k : Nat) (F : List Int) (bo : Int), k ≤ na ∧ i = .int .i64 k ∧ c = .int .u64 bo ∧ OwnV wr w.heap.size v F ∧ F.length = k ∧ AllH F ∧ 0 ≤ bo ∧ bo ≤ 1 ∧ vH F k - bo * pwH k = vH xs k - vH ys k ∧ Below w.heap.size w wr) (fun _ _ i _ => na - (intOf i).toNat)
  case atStart => exact ⟨0, [], 0, Nat.zero_le _, rfl, rfl, OwnV.nil _ _, rfl, AllH.nil, by omega, by omega, by simp [vH], Below.refl _ _⟩
  case round =>
    obtain ⟨k, F, bo, hk, rfl, rfl, hown, hF, hFh, hb0, hb1, hV, hbel⟩ := hrel
    have HF : Hid (F.length = k) := hF
    have HV : Hid (vH F k - bo * pwH k = vH xs k - vH ys k) := hV
    have HFh : Hid (AllH F) := hFh
    clear hF hV hFh
    by_cases hlt : k < na
    · have hkl : (k : Int) < (na : Int) := by omega
      obtain ⟨b1, o1, rfl, hc1⟩ := hra.at (by have := Hna.out; omega)
      have h1 := hc1 k (by have := Hna.out; omega)
      have hb1' := World.block_lt_of_cell? _ _ h1
      have g1 : wr.cell? ⟨b1, o1 + k, none⟩ = some (.int .u64 (lm xs k)) := by rw [hbel.cell (p := ⟨b1, o1 + k, none⟩) (by simpa using hb1')]; exact h1
      obtain ⟨x0, x1⟩ := hx.at k
      obtain ⟨y0, y1⟩ := hy.at k
      have hsz := hbel.size
      have hrow : ∀ q, u5.ownBlock = some q → w.heap.size ≤ q := fun q hq => (hown.lt q hq).1
      have D0 : Hid (vH (F ++ [lm xs k - (lm ys k + bo)]) (k + 1) - 0 * pwH (k + 1) = vH xs (k + 1) - vH ys (k + 1)) := by
        show _ = _
        rw [vH_app _ HF.out, pwH_succ]; exact dig_sub HV.out
      have D1 : Hid (vH (F ++ [lm xs k + 4294967296 - (lm ys k + bo)]) (k + 1) - 1 * pwH (k + 1) = vH xs (k + 1) - vH ys (k + 1)) := by
        show _ = _
        rw [vH_app _ HF.out, pwH_succ]; exact dig_sub1 HV.out
      clear hc1 h1 hx hy
      go_wp2_with fail
      refine (at_any b nb cb ys k wr Hnb.out (by omega) (hrb.below hbel)).mono ?_
      rintro e w1 ⟨rfl, rfl⟩
      clear hra hrb
      generalize lm xs k = X at *
      generalize lm ys k = Y at *
      by_cases hXY : X < Y + bo
      · go_wp2_with (at_builtin; refine wpList_append1 26 Tryd.underlying26 _ rfl _ _ rfl w.heap.size u5 F k HF rfl (hown.alloc _) wr.heap.size _ (X + 4294967296 - (Y + bo)) rfl (cell_new1 rfl) (by omega) (by simp; omega) (wr.heap.size + 1) (by simp) ?_)
        intro g cap1 w1 hown1 hgrow _ _
        have hbel1 : Below w.heap.size w w1 := hbel.trans (((Below.refl _ _).alloc (by omega) _).trans (grown_below hgrow (by simp; omega) hrow))
        clear hgrow hown
        go_wp2
        go_roundw
        case rel => exact ⟨k + 1, _, 1, by omega, by go_num, rfl, hown1, by simp [HF.out], allH_app HFh.out (by omega) (by omega), by omega, by omega, D1.out, hbel1⟩
        case measure => simp [intOf]; omega
      · go_wp2_with (at_builtin; refine wpList_append1 26 Tryd.underlying26 _ rfl _ _ rfl w.heap.size u5 F k HF rfl (hown.alloc _) wr.heap.size _ (X - (Y + bo)) rfl (cell_new1 rfl) (by omega) (by simp; omega) (wr.heap.size + 1) (by simp) ?_)
        intro g cap1 w1 hown1 hgrow _ _
        have hbel1 : Below w.heap.size w w1 := hbel.trans (((Below.refl _ _).alloc (by omega) _).trans (grown_below hgrow (by simp; omega) hrow))
        clear hgrow hown
        go_wp2
        go_roundw
        case rel => exact ⟨k + 1, _, 0, by omega, by go_num, rfl, hown1, by simp [HF.out], allH_app HFh.out (by omega) (by omega), by omega, by omega, D0.out, hbel1⟩
        case measure => simp [intOf]; omega
    · obtain rfl : k = na := by omega
      have hkl : ¬ (k : Int) < (k : Int) := by omega
      obtain ⟨c, cc, rfl⟩ := own_form hown HF.out
      obtain ⟨h1, h2, h3⟩ := hown.reads
      have hle : tlen F ≤ F.length := tl_le _ _
      have HE : Hid (valH F - bo * pwH k = valH xs - vH ys k) := by
        show _ = _
        have e1 : valH F = vH F k := by unfold valH; rw [HF.out]
        have e2 : valH xs = vH xs k := by unfold valH; rw [← Hna.out]
        rw [e1, e2]; exact HV.out
      have hle2 : tlen F ≤ cc := by omega
      have hm2 : k ≤ 1099511627776 := by omega
      clear hra hrb hx hy h1 hle
      go_wp2_with fail
      refine (rcut_any c k cc F wr HF.out.symm h2 hm2 h3).mono ?_
      rintro e w1 ⟨rfl, rfl⟩
      go_wp2
      go_ret
      exact ⟨c, cc, F, bo, rfl, HF.out, hle2, h3, HFh.out, hb0, hb1, HE.out, hbel⟩
theorem minusV {a b : Option Addr} {na nb ca cb : Nat} {x y : Int} {S R : Nat} (w : World) (ha : HNum w a na ca x S) (hb : HNum w b nb cb y R) (hS : S ≤ 1000000000000) (hR : R ≤ 1000000000000) (hxy : y ≤ x) :
    Calls Tryd.prog 59 #[.slice a na ca, .slice b nb cb] w fun e w' => ∃ c n cc, e = .returned (.slice c n cc) ∧ HNum w' c n cc (x - y) S ∧ Below w.heap.size w w' := by
  obtain ⟨xs, a1, a2, a3, a4, a5, a6, a7⟩ := ha
  obtain ⟨ys, b1, b2, b3, b4, b5, b6, b7⟩ := hb
  have hle := tlenH_mono b4 a4 (by omega)
  refine (minus_any a b na nb ca cb xs ys w a1 b1 (by omega) (by omega) a3 b3 a4 b4).mono ?_
  rintro e w' ⟨c, cc, out, bo, rfl, h1, h2, h3, h4, h5, h6, h7, h8⟩
  have hv2 : vH ys na = y := by rw [vH_long (by omega), b5]
  have hlt := valH_lt h4
  have hnn := valH_nn h4
  rw [h1] at hlt
  have hp := pwH_pos na
  have hto : tlen out ≤ out.length := tl_le _ _
  have hv : valH out = x - y := by
    rcases (by omega : bo = 0 ∨ bo = 1) with rfl | rfl
    · omega
    · omega
  refine ⟨c, _, cc, rfl, ?_, h8⟩
  rw [← hv]
  exact HNum.of_trim h3 h2 h4 (by omega)

set_option maxHeartbeats 400000 in
theorem rcmpV {a b : Option Addr} {na nb ca cb : Nat} {x y : Int} {S R : Nat} (w : World) (ha : HNum w a na ca x S) (hb : HNum w b nb cb y R) (hS : S ≤ 1000000000000) (hR : R ≤ 1000000000000) :
    Calls Tryd.prog 66 #[.slice a na ca, .slice b nb cb] w fun e w' => ∃ c : Int, e = .returned (.int .i64 c) ∧ ((c = 0 ∧ x = y) ∨ (c = -1 ∧ x < y) ∨ (c = 1 ∧ y < x)) ∧ Below w.heap.size w w' := by
  obtain ⟨xs, a1, a2, a3, a4, a5, a6, a7⟩ := ha
  obtain ⟨ys, b1, b2, b3, b4, b5, b6, b7⟩ := hb
  refine (rcmp_any a b na nb ca cb xs ys w a1 b1 (by omega) (by omega) a3 b3).mono ?_
  rintro e w' ⟨rfl, m, rfl⟩
  refine ⟨_, rfl, ?_, belN (Below.refl _ _) m⟩
  have e : rcmpL xs ys = cmpL xs ys := by unfold rcmpL cmpL; rw [a7, b7]
  have := cmpLH_val a4 b4
  rw [e, ← a5, ← b5]
  exact this

end Go.Proofs.YtbkkfpfddebakaaDoor

namespace Go.Proofs.YtbkkfpfddebakaaDoor
open Go.RowKit

theorem mod_mulH (s T : Int) : (s % 4294967296) * T + s / 4294967296 * (T * 4294967296) = s * T := by
  have h : s = s % 4294967296 + s / 4294967296 * 4294967296 := by omega
  have e : s / 4294967296 * (T * 4294967296) = s / 4294967296 * 4294967296 * T := by rw [Int.mul_comm T, Int.mul_assoc]
  rw [e, ← Int.add_mul, ← h]
theorem dig_add {A B F x y c P : Int} (h : F + c * P = A + B) : F + (x + y + c) % 4294967296 * P + (x + y + c) / 4294967296 * (P * 4294967296) = A + x * P + (B + y * P) := by
  rw [Int.add_assoc, mod_mulH, Int.add_mul, Int.add_mul]; omega

end Go.Proofs.YtbkkfpfddebakaaDoor

namespace Go.Proofs.YtbkkfpfddebakaaDoor
open Go.RowKit

/-- 'make([]uint64, n)' at a plain region. -/
theorem wpList_makeH (w : World) {ops : Array Oper} {rest : List Oper} {o : Oper} {a : Act} {Q : Exit → Act → World → Prop}
    (hg : o.guard = none) (l c : Operand) (hop : o.op = Op.makeSlice 26 l c)
    (L C : Int) (n : Nat) (hl : a.eval l = .int .i64 L) (hc : a.eval c = .int .i64 C) (hL : L = (n : Int)) (hC : C = (n : Int)) (b2 : n ≤ 1099511627776)
    (hK : ∀ w', Blk w' w.heap.size (List.replicate n 0) → Below w.heap.size w w' → wpList Tryd.prog ops Q rest (a.put o.dst (.slice (some ⟨w.heap.size, 0, none⟩) n n)) w') :
    wpList Tryd.prog ops Q (o :: rest) a w := by
  obtain ⟨i0, hi, hz0, hz1, hz2⟩ := info_parts Tryd.infoU64
  refine wpList_make_full w hg l c 26 hop w.heap.size 22 i0 (.int .u64 0) 1 Tryd.underlying26 hi hz0 hz1 .i64 .i64 L C n hl hc hL hC (by rw [hz2]; omega) (by unfold maxLen; omega) (Nat.le_refl _) ?_
  intro w' hown hgrow
  refine hK w' ?_ ((Below.refl _ _).grown hgrow (Nat.le_refl _) (fun k h => by cases h))
  obtain ⟨_, h2⟩ := hown
  rcases h2 with ⟨h2, _⟩ | ⟨g, cap, cur, hv, _, hh, _, _, hs, ht⟩
  · cases h2
  · simp only [Value.slice.injEq, Option.some.injEq, Addr.mk.injEq] at hv
    obtain ⟨⟨rfl, _, _⟩, _, rfl⟩ := hv
    unfold Blk
    rw [hh]
    have e : cur.toList = List.replicate n (Value.int .u64 0) := by
      have h3 : cur.toList.take (n * 1) = cur.toList := List.take_of_length_le (by simp [hs])
      rw [← h3, ht]
      simp only [Nat.mul_one]
      apply List.ext_getElem
      · simp [size_madeCells]
      · intro i h1 h2; simp [madeCells, Value.cells, Nat.mod_one]
    have : cur = (List.map (Value.int .u64) (List.replicate n 0)).toArray := by
      rw [List.map_replicate, ← e]
    rw [this]

theorem dig_mul {VU V0 A O X Y p c P PI PK : Int} (h : VU + c * P = V0 + PI * (A * X)) (hP : P = PI * PK) (hp : X * Y = p) :
    VU + ((O + p + c) % 4294967296 - O) * P + (O + p + c) / 4294967296 * (P * 4294967296) = V0 + PI * ((A + Y * PK) * X) := by
  have e1 := mod_mulH (O + p + c) P
  have e2 : PI * ((A + Y * PK) * X) = PI * (A * X) + p * P := by
    rw [Int.add_mul, Int.mul_add, ← hp, hP]
    congr 1
    ac_rfl
  rw [Int.sub_mul, e2]
  rw [Int.add_mul, Int.add_mul] at e1
  omega
theorem mul_bdH {x y : Int} (hx : 0 ≤ x) (hx' : x < 4294967296) (hy : 0 ≤ y) (hy' : y < 4294967296) : 0 ≤ x * y ∧ x * y ≤ 18446744065119617025 := by
  have h1 := Int.mul_nonneg hx hy
  have h2 := Int.mul_le_mul (a := x) (b := y) (c := 4294967295) (d := 4294967295) (by omega) (by omega) hy (by omega)
  omega
theorem mul_lt' {a b A B : Int} (ha : a < A) (hb0 : 0 ≤ b) (hb : b < B) (hA : 0 < A) : a * b < A * B := by
  have h1 := Int.mul_le_mul_of_nonneg_right (a := a) (b := A) (c := b) (by omega) hb0
  have h2 := Int.mul_lt_mul_of_pos_left hb hA
  omega
theorem carry0 {V c Q T : Int} (h : V + c * Q = T) (hV : 0 ≤ V) (hc : 0 ≤ c) (hT : T < Q) (hQ : 0 < Q) : c = 0 := by
  rcases (by omega : c = 0 ∨ 1 ≤ c) with h1 | h1
  · exact h1
  · have := Int.mul_le_mul_of_nonneg_right (a := 1) (b := c) (c := Q) h1 (by omega)
    omega
end Go.Proofs.YtbkkfpfddebakaaDoor

namespace Go.Proofs.YtbkkfpfddebakaaDoor
open Go.RowKit

end Go.Proofs.YtbkkfpfddebakaaDoor

namespace Go.Proofs.YtbkkfpfddebakaaDoor
open Go.RowKit
end Go.Proofs.YtbkkfpfddebakaaDoor

namespace Go.Proofs.YtbkkfpfddebakaaDoor
open Go.RowKit

end Go.Proofs.YtbkkfpfddebakaaDoor

import Derived.Test.YtmegocjmfcmhlaaDoorLentAll
import Derived.Test.YtmegocjmfcmhlaaDoorLent
namespace Go.Proofs.YtmegocjmfcmhlaaDoor
open Go.RowKit

theorem dig_sub {X Y F : Int} {x y bo P : Int} (h : F - bo * P = X - Y) : F + (x - (y + bo)) * P - 0 * (P * 4294967296) = X + x * P - (Y + y * P) := by
  rw [Int.sub_mul, Int.add_mul]; omega
theorem dig_sub1 {X Y F : Int} {x y bo P : Int} (h : F - bo * P = X - Y) : F + (x + 4294967296 - (y + bo)) * P - 1 * (P * 4294967296) = X + x * P - (Y + y * P) := by
  rw [Int.sub_mul, Int.add_mul, Int.add_mul, Int.mul_comm P 4294967296]; omega
end Go.Proofs.YtmegocjmfcmhlaaDoor

namespace Go.Proofs.YtmegocjmfcmhlaaDoor
open Go.RowKit

theorem mod_mulH (s T : Int) : (s % 4294967296) * T + s / 4294967296 * (T * 4294967296) = s * T := by
  have h : s = s % 4294967296 + s / 4294967296 * 4294967296 := by omega
  have e : s / 4294967296 * (T * 4294967296) = s / 4294967296 * 4294967296 * T := by rw [Int.mul_comm T, Int.mul_assoc]
  rw [e, ← Int.add_mul, ← h]
theorem dig_add {A B F x y c P : Int} (h : F + c * P = A + B) : F + (x + y + c) % 4294967296 * P + (x + y + c) / 4294967296 * (P * 4294967296) = A + x * P + (B + y * P) := by
  rw [Int.add_assoc, mod_mulH, Int.add_mul, Int.add_mul]; omega

end Go.Proofs.YtmegocjmfcmhlaaDoor

namespace Go.Proofs.YtmegocjmfcmhlaaDoor
open Go.RowKit

/-- 'make([]uint64, n)' at a plain region. -/
theorem wpList_makeH (w : World) {ops : Array Oper} {rest : List Oper} {o : Oper} {a : Act} {Q : Exit → Act → World → Prop}
    (hg : o.guard = none) (l c : Operand) (hop : o.op = Op.makeSlice 22 l c)
    (L C : Int) (n : Nat) (hl : a.eval l = .int .i64 L) (hc : a.eval c = .int .i64 C) (hL : L = (n : Int)) (hC : C = (n : Int)) (b2 : n ≤ 1099511627776)
    (hK : ∀ w', Blk w' w.heap.size (List.replicate n 0) → Below w.heap.size w w' → wpList Tryd.prog ops Q rest (a.put o.dst (.slice (some ⟨w.heap.size, 0, none⟩) n n)) w') :
    wpList Tryd.prog ops Q (o :: rest) a w := by
  obtain ⟨i0, hi, hz0, hz1, hz2⟩ := info_parts Tryd.infoU64
  refine wpList_make_full w hg l c 22 hop w.heap.size 37 i0 (.int .u64 0) 1 Tryd.underlying22 hi hz0 hz1 .i64 .i64 L C n hl hc hL hC (by rw [hz2]; omega) (by unfold maxLen; omega) (Nat.le_refl _) ?_
  intro w' hown hgrow
  refine hK w' ?_ ((Below.refl _ _).grown hgrow (Nat.le_refl _) (fun k h => by cases h))
  obtain ⟨_, h2⟩ := hown
  rcases h2 with ⟨h2, _⟩ | ⟨g, cap, cur, hv, _, hh, _, _, hs, ht⟩
  · cases h2
  · simp only [Value.slice.injEq, Option.some.injEq, Addr.mk.injEq] at hv
    obtain ⟨⟨rfl, _, _⟩, _, rfl⟩ := hv
    unfold Blk
    rw [hh]
    have e : cur.toList = List.replicate n (Value.int .u64 0) := by
      have h3 : cur.toList.take (n * 1) = cur.toList := List.take_of_length_le (by simp [hs])
      rw [← h3, ht]
      simp only [Nat.mul_one]
      apply List.ext_getElem
      · simp [size_madeCells]
      · intro i h1 h2; simp [madeCells, Value.cells, Nat.mod_one]
    have : cur = (List.map (Value.int .u64) (List.replicate n 0)).toArray := by
      rw [List.map_replicate, ← e]
    rw [this]

theorem dig_mul {VU V0 A O X Y p c P PI PK : Int} (h : VU + c * P = V0 + PI * (A * X)) (hP : P = PI * PK) (hp : X * Y = p) :
    VU + ((O + p + c) % 4294967296 - O) * P + (O + p + c) / 4294967296 * (P * 4294967296) = V0 + PI * ((A + Y * PK) * X) := by
  have e1 := mod_mulH (O + p + c) P
  have e2 : PI * ((A + Y * PK) * X) = PI * (A * X) + p * P := by
    rw [Int.add_mul, Int.mul_add, ← hp, hP]
    congr 1
    ac_rfl
  rw [Int.sub_mul, e2]
  rw [Int.add_mul, Int.add_mul] at e1
  omega
theorem mul_bdH {x y : Int} (hx : 0 ≤ x) (hx' : x < 4294967296) (hy : 0 ≤ y) (hy' : y < 4294967296) : 0 ≤ x * y ∧ x * y ≤ 18446744065119617025 := by
  have h1 := Int.mul_nonneg hx hy
  have h2 := Int.mul_le_mul (a := x) (b := y) (c := 4294967295) (d := 4294967295) (by omega) (by omega) hy (by omega)
  omega
theorem mul_lt' {a b A B : Int} (ha : a < A) (hb0 : 0 ≤ b) (hb : b < B) (hA : 0 < A) : a * b < A * B := by
  have h1 := Int.mul_le_mul_of_nonneg_right (a := a) (b := A) (c := b) (by omega) hb0
  have h2 := Int.mul_lt_mul_of_pos_left hb hA
  omega
theorem carry0 {V c Q T : Int} (h : V + c * Q = T) (hV : 0 ≤ V) (hc : 0 ≤ c) (hT : T < Q) (hQ : 0 < Q) : c = 0 := by
  rcases (by omega : c = 0 ∨ 1 ≤ c) with h1 | h1
  · exact h1
  · have := Int.mul_le_mul_of_nonneg_right (a := 1) (b := c) (c := Q) h1 (by omega)
    omega
end Go.Proofs.YtmegocjmfcmhlaaDoor

namespace Go.Proofs.YtmegocjmfcmhlaaDoor
open Go.RowKit

set_option maxHeartbeats 400000 in
/-- The number that is lent. -/
theorem lnat_any (w : World) (r gf cf gw cw n : Nat) (fs ws : List Int) (h : Lnt w r gf cf gw cw n fs ws) :
    Calls Tryd.prog 6 #[.pointer (some ⟨r, 0, none⟩)] w fun e w' => e = .returned (.slice (some ⟨gf, 0, none⟩) n cf) ∧ ∃ m, w' = w.drewN m := by
  have c0 := h.c0
  have c2 := h.c2
  have h1 : (0 : Int) ≤ (n : Int) := by omega
  have h2 : (n : Int) ≤ (cf : Int) := by have := h.le; have := h.rf.le; omega
  clear h
  go_enter Tryd.func6, Tryd.ntmps6
  go_wp2
  go_quiet (fail)
  go_wp2
  go_ret
  exact ⟨rfl, nq, rfl⟩

set_option maxHeartbeats 400000 in
/-- What is lent is as it was. -/
theorem kept_any (w : World) (r gf cf gw cw n : Nat) (fs ws : List Int) (h : Lnt w r gf cf gw cw n fs ws) (hm : fs.length ≤ 1000000000000) (hfw : fs = ws) :
    Calls Tryd.prog 11 #[.pointer (some ⟨r, 0, none⟩)] w fun e w' => e = .returned (.bool true) ∧ ∃ m, w' = w.drewN m := by
  subst hfw
  have c0 := h.c0
  have c1 := h.c1
  go_enter Tryd.func11, Tryd.ntmps11
  go_wp2
  go_loopw [3] (fun i wr => ∃ k m : Nat, k ≤ fs.length ∧ i = .int .i64 k ∧ wr = w.drewN m) (fun i _ => fs.length - (intOf i).toNat)
  case atStart => exact ⟨0, 0, Nat.zero_le _, rfl, rfl⟩
  case round =>
    obtain ⟨k, m, hk, rfl, rfl⟩ := hrel
    by_cases hlt : k < fs.length
    · have h1 := h.rf.cell hlt
      have h2 := h.rw.cell hlt
      have hkl : (k : Int) < (fs.length : Int) := by omega
      have hb : (lm fs k != lm fs k) = false := by simp
      clear h
      go_wp2
      go_quiet (fail)
      go_wp2
      go_roundw
      case rel => exact ⟨k + 1, m + nq, by omega, by go_num, rfl⟩
      case measure => simp [intOf]; omega
    · clear h
      go_wp2
      go_ret
      exact ⟨rfl, m, rfl⟩

end Go.Proofs.YtmegocjmfcmhlaaDoor

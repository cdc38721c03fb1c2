import Derived.Test.YtfelogbfijomiaaDoorNumberA
namespace Go.Proofs.YtfelogbfijomiaaDoor
open Go.RowKit

theorem numL_hv {xs : List Int} (h : AllW xs) : numL (hv xs) = trimL xs := by
  obtain ⟨h1, h2, _⟩ := nf_numL (allH_hv h)
  exact nf_unique h1 (NF.trimL h) (by rw [h2, valH_hv, val_trimL])
theorem numL_trim (hs : List Int) : numL (trimL hs) = numL hs := by unfold numL; rw [trimL_trimL]

set_option maxHeartbeats 400000 in
/-- The document's Norm. -/
theorem rnorm_any (a : Option Addr) (n cap : Nat) (xs : List Int) (w : World) (hn : n = xs.length) (hl : n ≤ cap) (hm : n ≤ 400000000) (hr : Reads w a xs) (hx : AllW xs) :
    Calls Tryd.prog 60 #[.slice a n cap] w fun e w' => ∃ c cc, e = .returned (.slice c (tlen xs) cc) ∧ OwnV w' w.heap.size (.slice c (tlen xs) cc) (trimL xs) ∧ Below w.heap.size w w' := by
  subst hn
  have ht : tlen (hv xs) ≤ (hv xs).length := tl_le _ _
  have hlh := length_hv xs
  have hb : tlen (hv xs) ≤ 1000000000 := by omega
  have HE : Hid (numL (trimL (hv xs)) = trimL xs) := by show _ = _; rw [numL_trim]; exact numL_hv hx
  have HE2 : Hid ((numL (trimL (hv xs))).length = tlen xs) := by show _ = _; rw [HE.out, length_trimL]
  clear hlh
  go_enter Tryd.func60, Tryd.ntmps60
  go_wp2_with fail
  refine (halves_any a _ cap xs _ rfl hl (by omega) hr hx).mono ?_
  rintro e w1 ⟨c, cc, rfl, hc, hrc, hbel1⟩
  go_wp2_with fail
  refine (number_any c (tlen (hv xs)) cc (trimL (hv xs)) _ (length_trimL _).symm hc hb (hrc.take _) (allH_hv hx).trim).mono ?_
  rintro e w2 ⟨d, cd, rfl, hown, hbel2⟩
  rw [HE2.out] at hown
  rw [HE.out] at hown
  rw [HE2.out]
  have hown2 := hown.mono hbel1.size
  clear HE HE2
  go_wp2
  go_ret
  exact ⟨d, cd, rfl, hown2, bel_tr hbel1 hbel2⟩

set_option maxHeartbeats 400000 in
/-- The document's Of. -/
theorem rof_any (v : Int) (w : World) (h0 : 0 ≤ v) (h1 : v < 18446744073709551616) :
    Calls Tryd.prog 103 #[.int .u64 v] w fun e w' => ∃ c cc, e = .returned (.slice c (tlen [v]) cc) ∧ OwnV w' w.heap.size (.slice c (tlen [v]) cc) (trimL [v]) ∧ Below w.heap.size w w' := by
  go_enter Tryd.func103, Tryd.ntmps103
  go_wp2_with fail
  have k1 : Blk (w.alloc (Obj.cells #[Value.int IntKind.u64 v] 64)) w.heap.size [v] := blk_new [v]
  refine (rnorm_any _ 1 1 [v] _ rfl (Nat.le_refl _) (by omega) k1.reads' (fun x hx => by simp at hx; subst hx; exact ⟨h0, h1⟩)).mono ?_
  rintro e w2 ⟨d, cd, rfl, hown, hbel2⟩
  have hown2 := hown.mono (B' := w.heap.size) (by simp)
  have hb := bel_tr ((Below.refl w.heap.size w).alloc (Nat.le_refl _) (Obj.cells #[Value.int IntKind.u64 v] 64)) hbel2
  go_wp2
  go_ret
  exact ⟨d, cd, rfl, hown2, hb⟩

/-- As a word, if it fits. -/
def uval (xs : List Int) : Int := if tlen xs = 1 then lm xs 0 else 0
def ufit (xs : List Int) : Bool := decide (tlen xs ≤ 1)
set_option maxHeartbeats 400000 in
theorem ruint64_any (a : Option Addr) (n cap : Nat) (xs : List Int) (w : World) (hn : n = xs.length) (hl : n ≤ cap) (hm : n ≤ 400000000) (hr : Reads w a xs) (hx : AllW xs) :
    Calls Tryd.prog 63 #[.slice a n cap] w fun e w' => e = .returned (.tuple #[.int .u64 (uval xs), .bool (ufit xs)]) ∧ Below w.heap.size w w' := by
  subst hn
  go_enter Tryd.func63, Tryd.ntmps63
  go_wp2_with fail
  refine (rnorm_any a _ cap xs _ rfl hl hm hr hx).mono ?_
  rintro e w1 ⟨c, cc, rfl, hown, hbel⟩
  obtain ⟨q1, q2, hr2⟩ := hown.reads
  have HL := length_trimL xs
  have HLL : Hid ((trimL xs).length = tlen xs) := HL
  have HU : Hid (uval xs = if tlen xs = 1 then lm xs 0 else 0) := rfl
  have HF : Hid (ufit xs = decide (tlen xs ≤ 1)) := rfl
  have H0 : Hid (tlen xs = 1 → lm (trimL xs) 0 = lm xs 0) := fun h => lm_trimL (by omega)
  clear HL q1
  generalize tlen xs = m at *
  by_cases h0 : m = 0
  · subst h0
    go_wp2
    go_ret2
    exact ⟨by rw [HU.out, HF.out]; rfl, hbel⟩
  · by_cases h1 : m = 1
    · subst h1
      obtain ⟨b1, o1, rfl, hc1⟩ := hr2.at (by rw [HLL.out]; omega)
      have cc0 := hc1 0 (by rw [HLL.out]; omega)
      rw [Nat.add_zero, H0.out rfl] at cc0
      clear hc1
      go_wp2
      go_ret2
      exact ⟨by rw [HU.out, HF.out]; rfl, hbel⟩
    · have t0 : ((m : Int) == 0) = false := by simp; omega
      have t1 : (1 : Int) < (m : Int) := by omega
      go_wp2
      go_ret2
      refine ⟨?_, hbel⟩
      rw [HU.out, HF.out, if_neg h1]
      have : decide (m ≤ 1) = false := by simp; omega
      rw [this]; rfl

set_option maxHeartbeats 400000 in
theorem same_any (a b : Option Addr) (na nb ca cb : Nat) (xs ys : List Int) (w : World) (hna : na = xs.length) (hnb : nb = ys.length) (hma : na ≤ 1099511627776) (hra : Reads w a xs) (hrb : Reads w b ys) (hxy : xs = ys) :
    Calls Tryd.prog 54 #[.slice a na ca, .slice b nb cb] w fun e w' => e = .returned (.bool true) ∧ ∃ m, w' = w.drewN m := by
  subst hna hnb hxy
  have t1 : ((xs.length : Int) != (xs.length : Int)) = false := by simp
  go_enter Tryd.func54, Tryd.ntmps54
  go_wp2
  go_loopw [5] (fun i wr => ∃ k m : Nat, k ≤ xs.length ∧ i = .int .i64 k ∧ wr = w.drewN m) (fun i _ => xs.length - (intOf i).toNat)
  case atStart => exact ⟨0, 0, Nat.zero_le _, rfl, rfl⟩
  case round =>
    obtain ⟨k, m, hk, rfl, rfl⟩ := hrel
    by_cases hlt : k < xs.length
    · obtain ⟨b1, o1, rfl, hc1⟩ := hra.at (by omega)
      obtain ⟨b2, o2, rfl, hc2⟩ := hrb.at (by omega)
      have h1 := hc1 k hlt
      have h2 := hc2 k hlt
      have hkl : (k : Int) < (xs.length : Int) := by omega
      have hb : (lm xs k != lm xs k) = false := by simp
      clear hc1 hc2
      go_wp2
      go_quiet (fail)
      go_wp2
      go_roundw
      case rel => exact ⟨k + 1, m + nq, by omega, by go_num, rfl⟩
      case measure => simp [intOf]; omega
    · go_wp2
      go_ret
      exact ⟨rfl, m, rfl⟩

/-- The document's count of bits. -/
def rbitsL (h : List Int) : Int := if tlen h = 0 then 0 else 32 * ((tlen h : Int) - 1) + Lib.bitLen (lm h (tlen h - 1)).toNat
end Go.Proofs.YtfelogbfijomiaaDoor

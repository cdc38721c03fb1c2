import Derived.Test.YtfelogbfijomiacDoorLow
import Derived.Test.YtfelogbfijomiacDoorMul2
namespace Go.Proofs.YtfelogbfijomiacDoor
open Go.RowKit

set_option maxHeartbeats 400000 in
theorem of_any (v : Int) (w : World) (h0 : 0 ≤ v) (h1 : v < 18446744073709551616) :
    Calls Tryd.prog 17 #[.int .u64 v] w fun e w' => ∃ a cap, e = .returned (.slice a (tlen [v]) cap) ∧ Own w' w.heap.size a cap (trimL [v]) ∧ Below w.heap.size w w' := by
  by_cases hv : v = 0
  · subst hv
    go_enter Tryd.func17, Tryd.ntmps17
    go_wp2
    go_ret
    exact ⟨none, 0, rfl, .inl ⟨rfl, rfl, rfl⟩, Below.refl _ _⟩
  · have t1 : (v == 0) = false := by simpa using hv
    go_enter Tryd.func17, Tryd.ntmps17
    go_wp2
    go_ret
    have e1 : tlen [v] = 1 := by simp [tlen, tl, lm, hv]
    have e2 : trimL [v] = [v] := by simp [trimL, e1]
    refine ⟨some ⟨w.heap.size, 0, none⟩, 1, by rw [e1]; rfl, ?_, (Below.refl _ _).alloc (Nat.le_refl _) _⟩
    rw [e2]
    exact .inr ⟨w.heap.size, [v], rfl, Nat.le_refl _, by unfold Blk; rw [heap_alloc_new]; rfl, rfl, by simp, by simp⟩

/-- How many bits. -/
def bitsL (xs : List Int) : Int := if tlen xs = 0 then 0 else ((tlen xs : Int) - 1) * 64 + Lib.bitLen (lm xs (tlen xs - 1)).toNat
theorem bitLen_le64 {x : Int} (h1 : x < 18446744073709551616) : Lib.bitLen x.toNat ≤ 64 := Lib.bitLen_le _ 64 (Nat.le_refl _) (by omega)
set_option maxHeartbeats 400000 in
theorem bits_any (a : Option Addr) (n cap : Nat) (xs : List Int) (w : World) (hn : n = xs.length) (hl : n ≤ cap) (hm : n ≤ 1099511627776) (hr : Reads w a xs) (hx : AllW xs) :
    Calls Tryd.prog 8 #[.slice a n cap] w fun e w' => e = .returned (.int .i64 (bitsL xs)) ∧ w = w' := by
  have ta : tlen xs ≤ xs.length := tl_le _ _
  subst hn
  go_enter Tryd.func8, Tryd.ntmps8
  go_wp2_with fail
  refine (trim_any a _ cap xs _ rfl hl hm hr).mono ?_
  rintro e w1 ⟨rfl, rfl⟩
  have HB : Hid (bitsL xs = if tlen xs = 0 then 0 else ((tlen xs : Int) - 1) * 64 + Lib.bitLen (lm xs (tlen xs - 1)).toNat) := rfl
  generalize tlen xs = m at *
  by_cases h0 : m = 0
  · subst h0
    go_wp2
    go_ret
    exact ⟨ret_int (by rw [HB.out]; rfl), rfl⟩
  · obtain ⟨k, rfl⟩ : ∃ k, m = k + 1 := ⟨m - 1, by omega⟩
    obtain ⟨b1, o1, rfl, hc1⟩ := hr.at (by omega)
    have h1 := hc1 k (by omega)
    obtain ⟨x0, x1⟩ := hx.at k
    have HB2 : Hid (bitsL xs = (k : Int) * 64 + Lib.bitLen (lm xs k).toNat) := by
      show _ = _
      rw [HB.out, if_neg (by omega), show k + 1 - 1 = k by omega]
      have : (((k + 1 : Nat) : Int) - 1) = k := by omega
      rw [this]
    have hbl := bitLen_le64 x1
    clear hc1 HB
    generalize lm xs k = X at *
    go_wp2_with fail
    refine (len64_any X _ x0 x1).mono ?_
    rintro e w1 ⟨rfl, rfl⟩
    generalize Lib.bitLen X.toNat = L at *
    go_wp2
    go_ret
    exact ⟨ret_int HB2.out.symm, rfl⟩

/-- What cut leaves, and the rest. -/
def quoW (xs : List Int) (d : Int) : List Int := (cutR (trimL xs) (tlen xs) d (tlen xs)).1
def remW (xs : List Int) (d : Int) : Int := (cutR (trimL xs) (tlen xs) d (tlen xs)).2

set_option maxHeartbeats 1000000 in
/-- DivMod by a number of one limb, where the first one has a limb at least. -/
theorem divmod_word (a b : Option Addr) (na nb ca cb : Nat) (xs ys : List Int) (w : World) (hna : na = xs.length) (hnb : nb = ys.length) (hla : na ≤ ca) (hlb : nb ≤ cb)
    (hma : na ≤ 1000000000000) (hmb : nb ≤ 1000000000000) (hra : Reads w a xs) (hrb : Reads w b ys) (hx : AllW xs) (hy : AllW ys) (h1 : tlen ys = 1) (h2 : 1 ≤ tlen xs) (D : Int) (hD : lm ys 0 = D) (hd : 0 < D) :
    Calls Tryd.prog 7 #[.slice a na ca, .slice b nb cb] w fun e w' => ∃ g c capc, e = .returned (.tuple #[.slice (some ⟨g, 0, none⟩) (tlen (quoW xs D)) (tlen xs), .slice c (tlen [remW xs D]) capc, .nilIface]) ∧
      w.heap.size ≤ g ∧ Blk w' g (quoW xs D) ∧ Own w' (g + 1) c capc (trimL [remW xs D]) ∧ Below w.heap.size w w' := by
  have ta : tlen xs ≤ xs.length := tl_le _ _
  have tb : tlen ys ≤ ys.length := tl_le _ _
  subst hna hnb
  obtain ⟨b2, o2, rfl, hc2⟩ := hrb.at (by omega)
  have hy0 := hc2 0 (by omega)
  have hlt0 := World.block_lt_of_cell? _ _ hy0
  obtain ⟨d0, d1⟩ := hy.at 0
  rw [hD] at hy0 d0 d1
  go_enter Tryd.func7, Tryd.ntmps7
  go_wp2_with fail
  refine (trim_any a _ ca xs _ rfl hla (by omega) hra).mono ?_
  rintro e w1 ⟨rfl, rfl⟩
  go_wp2_with fail
  refine (trim_any _ _ cb ys _ rfl hlb (by omega) hrb).mono ?_
  rintro e w1 ⟨rfl, rfl⟩
  rw [h1]
  have H1 : Hid (tlen ys = 1) := h1
  clear h1 hrb hy hc2
  clear hD
  have t1 : ((1 : Int) == 0) = false := rfl
  have HX : Hid ((trimL xs).length = tlen xs) := length_trimL xs
  go_wp2_with fail
  refine (norm_any a (tlen xs) ca (trimL xs) _ HX.out.symm (by omega) (by omega) (hra.take _)).mono ?_
  rintro e w1 ⟨g, rfl, hg, hb1, hbel1⟩
  have ett : tlen (trimL xs) = tlen xs := tlen_trimL xs
  rw [ett]
  rw [trimL_trimL] at hb1
  clear ett
  have hcell : w1.cell? ⟨b2, o2, none⟩ = some (.int .u64 D) := by
    rw [hbel1.cell (p := ⟨b2, o2, none⟩) (by simpa using hlt0)]; simpa using hy0
  have HQ : Hid (quoW xs D = (cutR (trimL xs) (tlen xs) D (tlen xs)).1) := rfl
  have HR : Hid (remW xs D = (cutR (trimL xs) (tlen xs) D (tlen xs)).2) := rfl
  have hcut := cutR_ok (us := trimL xs) (tlen xs) (hx.take _) hd (tlen xs)
  go_wp2_with fail
  refine (cut_any g (tlen xs) (tlen xs) (trimL xs) D w1 hb1 (by rw [HX.out]; exact Nat.le_refl _) (by rw [HX.out]; omega) (hx.take _) hd d1).mono ?_
  rintro e w2 ⟨rfl, hb2, hoff⟩
  rw [← HQ.out] at hb2
  rw [← HR.out]
  rw [← HR.out] at hcut
  have hlq : (quoW xs D).length = tlen xs := by rw [HQ.out, hcut.2.1, HX.out]
  have HLQ : Hid ((quoW xs D).length = tlen xs) := hlq
  obtain ⟨_, _, r0, r1⟩ := hcut
  have hbel2 : Below w.heap.size w w2 := hbel1.trans (hoff.below hg)
  clear hlq hoff hb1 hcell hbel1 HQ HR
  go_wp2_with fail
  refine (of_any (remW xs D) w2 r0 (by omega)).mono ?_
  rintro e w3 ⟨c, capc, rfl, hown, hbel3⟩
  have hb3 : Blk w3 g (quoW xs D) := hb2.below hbel3 hb2.lt
  have hlt2 := hb2.lt
  go_wp2_with fail
  refine (trim_any (some ⟨g, 0, none⟩) (tlen xs) (tlen xs) (quoW xs D) w3 HLQ.out.symm (Nat.le_refl _) (by omega) hb3.reads').mono ?_
  rintro e w4 ⟨rfl, rfl⟩
  go_wp2
  go_ret3
  exact ⟨g, c, capc, rfl, hg, hb3, hown.mono (B' := g + 1) hlt2, hbel2.trans (hbel3.mono hbel2.size)⟩
end Go.Proofs.YtfelogbfijomiacDoor

import Derived.Test.YtbkkepbmaadomaaGreatDoorLentAll
namespace Go.Proofs.YtbkkepbmaadomaaGreatDoor
open Go.RowKit
set_option maxHeartbeats 1000000 in
theorem rbits_any (a : Option Addr) (n cap : Nat) (xs : List Int) (w : World) (hn : n = xs.length) (hl : n ≤ cap) (hm : n ≤ 400000000) (hr : Reads w a xs) (hx : AllW xs) :
    Calls Tryz.prog 23 #[.slice a n cap] w fun e w' => e = .returned (.int .i64 (rbitsL (hv xs))) ∧ Below w.heap.size w w' := by
  subst hn
  have ht : tlen (hv xs) ≤ (hv xs).length := tl_le _ _
  have hlh := length_hv xs
  have hb : tlen (hv xs) ≤ 1000000000 := by omega
  have hh := allH_hv hx
  clear hlh
  go_enter Tryz.func23, Tryz.ntmps23
  go_wp2_with fail
  refine (halves_any a _ cap xs _ rfl hl (by omega) hr hx).mono ?_
  rintro e w1 ⟨c, cc, rfl, hc, hrc, hbel⟩
  have HB : Hid (rbitsL (hv xs) = if tlen (hv xs) = 0 then 0 else 32 * ((tlen (hv xs) : Int) - 1) + Lib.bitLen (lm (hv xs) (tlen (hv xs) - 1)).toNat) := rfl
  generalize tlen (hv xs) = m at *
  by_cases h0 : m = 0
  · subst h0
    go_wp2
    go_ret
    exact ⟨ret_int (by rw [HB.out]; rfl), hbel⟩
  · obtain ⟨k, rfl⟩ : ∃ k, m = k + 1 := ⟨m - 1, by omega⟩
    obtain ⟨b1, o1, rfl, hc1⟩ := hrc.at (by omega)
    have h1 := hc1 k (by omega)
    obtain ⟨x0, x1⟩ := hh.at k
    have HB2 : Hid (rbitsL (hv xs) = 32 * (k : Int) + Lib.bitLen (lm (hv xs) k).toNat) := by
      show _ = _
      rw [HB.out, if_neg (by omega), show k + 1 - 1 = k by omega]
      have : (((k + 1 : Nat) : Int) - 1) = k := by omega
      rw [this]
    have hbl := bitLen_le64 (x := lm (hv xs) k) (by omega)
    clear hc1 HB
    generalize lm (hv xs) k = X at *
    go_wp2
    go_loop [4, 5] (fun s t => ∃ (c : Nat) (T : Int), s = .int .i64 (32 * (k : Int) + c) ∧ t = .int .u64 T ∧ 0 ≤ T ∧ T < 4294967296 ∧ c + Lib.bitLen T.toNat = Lib.bitLen X.toNat) (fun _ t => (intOf t).toNat)
    case atStart => exact ⟨0, X, by go_num, rfl, x0, x1, by omega⟩
    case round =>
      obtain ⟨c, T, rfl, rfl, t0, t1, hct⟩ := hrel
      have HCT : Hid (c + Lib.bitLen T.toNat = Lib.bitLen X.toNat) := hct
      have hcb : c ≤ 64 := by omega
      clear hct
      by_cases hT : 0 < T
      · have HCT2 : Hid (c + 1 + Lib.bitLen (T / 2).toNat = Lib.bitLen X.toNat) := by
          show _ = _
          have e := Lib.bitLen_half T.toNat (by omega) (by omega)
          have e2 : (T / 2).toNat = T.toNat / 2 := by omega
          have := HCT.out
          rw [e2]; omega
        go_wp2
        go_round
        case rel => exact ⟨c + 1, T / 2, by go_num, rfl, by omega, by omega, HCT2.out⟩
        case measure => simp [intOf]; omega
      · obtain rfl : T = 0 := by omega
        have HC : Hid ((c : Int) = Lib.bitLen X.toNat) := by
          show _ = _
          have := HCT.out
          have e : Lib.bitLen ((0 : Int).toNat) = 0 := by decide
          rw [e] at this; omega
        go_wp2
        go_ret
        exact ⟨ret_int (by rw [HB2.out, ← HC.out]), hbel⟩
end Go.Proofs.YtbkkepbmaadomaaGreatDoor

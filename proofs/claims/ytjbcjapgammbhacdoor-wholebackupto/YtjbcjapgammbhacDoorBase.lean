import Derived.Test.YtjbcjapgammbhacDoorRows
import Derived.WalkKit
import Derived.WalkSpells
import Derived.WalkLawsBesides
import Derived.Outline
import Derived.Deep.QuietTactic
import Derived.BigQuiet
import Derived.Deep.RegionWith
import Derived.Deep.RegionHeld3
import Derived.Handy
namespace Go.Proofs.YtjbcjapgammbhacDoor
open Go.RowKit

/-- A word. -/
def Word (x : Int) : Prop := 0 ≤ x ∧ x < 18446744073709551616

/-- The limb at a place (nought beyond the end). -/
def lm (xs : List Int) (i : Nat) : Int := xs.getD i 0

/-- The cells from an address on hold the numbers xs (an address is asked for only where there is a number). -/
def Reads (w : World) (a : Option Addr) (xs : List Int) : Prop :=
  xs = [] ∨ ∃ b o, a = some ⟨b, o, none⟩ ∧ ∀ i, i < xs.length → w.cell? ⟨b, o + i, none⟩ = some (.int .u64 (lm xs i))

/-- How many limbs of the first n are left without the noughts at the end. -/
def tl (xs : List Int) : Nat → Nat
  | 0 => 0
  | n + 1 => if lm xs n = 0 then tl xs n else n + 1
theorem tl_le (xs : List Int) (n : Nat) : tl xs n ≤ n := by
  induction n with
  | zero => simp [tl]
  | succ n ih => unfold tl; split <;> omega
/-- The length of what is left. -/
def tlen (xs : List Int) : Nat := tl xs xs.length
def trimL (xs : List Int) : List Int := xs.take (tlen xs)

theorem ret_slice {a : Option Addr} {n m c : Nat} (h : n = m) : Ending.returned (.slice a n c) = .returned (.slice a m c) := by rw [h]
theorem ret_int {k : IntKind} {a b : Int} (h : a = b) : Ending.returned (.int k a) = .returned (.int k b) := by rw [h]

/-- What 'order' tells, under a name. -/
def ordI (b : Bool) : Int := if b then -1 else 1
theorem order_any (b : Bool) (w : World) : Calls Tryd.prog 39 #[.bool b] w fun e w' => e = .returned (.int .i64 (ordI b)) ∧ w = w' := by
  cases b
  all_goals
    go_enter Tryd.func39, Tryd.ntmps39
    go_wp2
    go_ret
    exact ⟨rfl, rfl⟩

set_option maxHeartbeats 400000 in
theorem trim_none (a : Option Addr) (cap : Nat) (w : World) : Calls Tryd.prog 37 #[.slice a 0 cap] w fun e w' => e = .returned (.slice a 0 cap) ∧ w = w' := by
  go_enter Tryd.func37, Tryd.ntmps37
  go_wp2
  go_loop [3] (fun i => i = .int .i64 0) (fun _ => 0)
  case atStart => rfl
  case round =>
    subst hrel
    go_wp2
    go_ret
    exact ⟨by simp, rfl⟩

set_option maxHeartbeats 400000 in
theorem trim_some (b o cap : Nat) (xs : List Int) (w : World) (hl : xs.length ≤ cap) (hm : xs.length ≤ 1099511627776) (hc : ∀ i, i < xs.length → w.cell? ⟨b, o + i, none⟩ = some (.int .u64 (lm xs i))) :
    Calls Tryd.prog 37 #[.slice (some ⟨b, o, none⟩) xs.length cap] w fun e w' => e = .returned (.slice (some ⟨b, o, none⟩) (tlen xs) cap) ∧ w = w' := by
  go_enter Tryd.func37, Tryd.ntmps37
  go_wp2
  go_loop [3] (fun i => ∃ k : Nat, k ≤ xs.length ∧ i = .int .i64 k ∧ tl xs k = tlen xs) (fun i => (intOf i).toNat)
  case atStart => exact ⟨_, Nat.le_refl _, rfl, rfl⟩
  case round =>
    obtain ⟨k, hk, rfl, ht⟩ := hrel
    have HT : Hid (tl xs k = tlen xs) := ht
    clear ht
    by_cases hk0 : k = 0
    · subst hk0
      go_wp2
      go_ret
      exact ⟨ret_slice HT.out, rfl⟩
    · obtain ⟨j, rfl⟩ : ∃ j, k = j + 1 := ⟨k - 1, by omega⟩
      have hcj := hc j (by omega)
      by_cases hz : lm xs j = 0
      · have HT2 : Hid (tl xs j = tlen xs) := by have := HT.out; unfold tl at this; rw [if_pos hz] at this; exact this
        rw [hz] at hcj
        clear hz
        go_wp2
        go_round
        case rel => exact ⟨j, by omega, by go_num, HT2.out⟩
        case measure => simp [intOf]
      · have HT2 : Hid (j + 1 = tlen xs) := by have := HT.out; unfold tl at this; rw [if_neg hz] at this; exact this
        have hzb : (lm xs j == 0) = false := by simpa using hz
        clear hz
        go_wp2
        go_ret
        exact ⟨ret_slice HT2.out, rfl⟩

theorem trim_any (a : Option Addr) (n cap : Nat) (xs : List Int) (w : World) (hn : n = xs.length) (hl : n ≤ cap) (hm : n ≤ 1099511627776) (hr : Reads w a xs) :
    Calls Tryd.prog 37 #[.slice a n cap] w fun e w' => e = .returned (.slice a (tlen xs) cap) ∧ w = w' := by
  subst hn
  rcases hr with rfl | ⟨b, o, rfl, hc⟩
  · exact trim_none a cap w
  · exact trim_some b o cap xs w hl hm hc
end Go.Proofs.YtjbcjapgammbhacDoor

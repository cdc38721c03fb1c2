import Derived.Test.YtfelogbfijomiaaDoorRefA
namespace Go.Proofs.YtfelogbfijomiaaDoor
open Go.RowKit

/-- The half limbs. -/
def hv : List Int → List Int
  | [] => []
  | x :: xs => x % 4294967296 :: x / 4294967296 :: hv xs
theorem length_hv (xs : List Int) : (hv xs).length = 2 * xs.length := by
  induction xs with
  | nil => rfl
  | cons x xs ih => simp [hv, ih]; omega
theorem hv_append (xs ys : List Int) : hv (xs ++ ys) = hv xs ++ hv ys := by
  induction xs with
  | nil => rfl
  | cons x xs ih => simp [hv, ih]
theorem hv_snoc (xs : List Int) (k : Nat) (h : k < xs.length) : hv (xs.take k) ++ [lm xs k % 4294967296, lm xs k / 4294967296] = hv (xs.take (k + 1)) := by
  rw [← take_snoc_lm xs k h, hv_append]; rfl

theorem keep_far {w w1 : World} {blk : Obj} {row : Option Nat} {p : Addr} {v : Value} {B : Nat} (hg : ((w.alloc blk).drew).grownBy w1 row) (hc : w.cell? p = some v) (hr : ∀ q, row = some q → B ≤ q) (hp : p.block < B) : w1.cell? p = some v := by
  have hlt := World.block_lt_of_cell? _ _ hc
  rw [grown_cell hg (p := p) (by simp; omega) (fun e => by have := hr _ e.symm; omega)]
  have : (w.alloc blk).drew.cell? p = w.cell? p := World.cell?_of_block (w := w) (Below.heap_alloc _ _ _ hlt)
  rw [this]; exact hc

set_option maxHeartbeats 1000000 in
theorem halves_any (a : Option Addr) (n cap : Nat) (xs : List Int) (w : World) (hn : n = xs.length) (hl : n ≤ cap) (hm : n ≤ 400000000000) (hr : Reads w a xs) (hx : AllW xs) :
    Calls Tryd.prog 81 #[.slice a n cap] w fun e w' => ∃ c cc, e = .returned (.slice c (tlen (hv xs)) cc) ∧ tlen (hv xs) ≤ cc ∧ Reads w' c (hv xs) ∧ Below w.heap.size w w' := by
  subst hn
  go_enter Tryd.func81, Tryd.ntmps81
  go_wp2
  go_loopw [3, 4] (fun v i wr => ∃ k : Nat, k ≤ xs.length ∧ i = .int .i64 k ∧ OwnV wr w.heap.size v (hv (xs.take k)) ∧ Below w.heap.size w wr) (fun _ i _ => xs.length - (intOf i).toNat)
  case atStart => exact ⟨0, Nat.zero_le _, rfl, OwnV.nil _ _, Below.refl _ _⟩
  case round =>
    obtain ⟨k, hk, rfl, hown, hbel⟩ := hrel
    by_cases hlt : k < xs.length
    · obtain ⟨b1, o1, rfl, hc1⟩ := hr.at (by omega)
      have h1 := hc1 k hlt
      have h2 : wr.cell? ⟨b1, o1 + k, none⟩ = some (.int .u64 (lm xs k)) := by
        have := World.block_lt_of_cell? _ _ h1
        rw [hbel.cell (p := ⟨b1, o1 + k, none⟩) (by simpa using this)]; exact h1
      have HT : Hid (hv (xs.take k) ++ [lm xs k % 4294967296, lm xs k / 4294967296] = hv (xs.take (k + 1))) := hv_snoc xs k hlt
      have HK : Hid ((hv (xs.take k)).length = 2 * k) := by show _ = _; rw [length_hv, List.length_take]; omega
      obtain ⟨x0, x1⟩ := hx.at k
      have hkl : (k : Int) < (xs.length : Int) := by omega
      have hb1 : b1 < w.heap.size := by simpa using World.block_lt_of_cell? _ _ h1
      clear hc1 h1 hr hx
      generalize hv (xs.take k) = F at *
      generalize lm xs k = X at *
      have T1 : X.tmod 4294967296 = X % 4294967296 := Int.tmod_eq_emod_of_nonneg x0
      have T2 : IntKind.u64.wrap (X.tdiv 4294967296) = X / 4294967296 := by rw [Int.tdiv_eq_ediv_of_nonneg x0, IntKind.wrap_u64]; omega
      have hsz := hbel.size
      have hrow : ∀ q, u3.ownBlock = some q → w.heap.size ≤ q := fun q hq => (hown.lt q hq).1
      go_wp2
      go_region_held3 (fun w' => w'.cell? ⟨b1, o1 + k, none⟩ = some (.int .u64 X)) (first | (go_keep; done) | exact keep_far hgrow h2 hrow hb1)
        ((refine step_append2 22 Tryd.underlying22 _ (by rfl) _ _ (by rfl) w.heap.size u3 F (2 * k) HK (by rfl) (by exact (hown.alloc _).drew) wr.heap.size _ (X % 4294967296) (X / 4294967296) (by rfl) (by simp) (by simp) (by omega) (by simp; omega) (wr.heap.size + 1) (by simp) ?_; intro g cap1 w1 hown1 hgrow hat hlt1))
      have hbel1 : Below w.heap.size w w1 := hbel.trans (((Below.refl _ _).alloc (by omega) _).drew.trans (grown_below hgrow (by simp; omega) hrow))
      rw [HT.out] at hown1
      clear hgrow hat hown
      go_wp2
      go_roundw
      case rel => exact ⟨k + 1, by omega, by go_num, hown1, hbel1⟩
      case measure => simp [intOf]; omega
    · obtain rfl : k = xs.length := by omega
      rw [List.take_length] at hown
      obtain ⟨c, cc, rfl⟩ := hown.slice
      obtain ⟨h1, h2, h3⟩ := hown.reads
      have hlh := length_hv xs
      have HLH : Hid ((hv xs).length = 2 * xs.length) := hlh
      have hml : (hv xs).length ≤ 1099511627776 := by omega
      have htl : tlen (hv xs) ≤ (hv xs).length := tl_le _ _
      clear hlh
      go_wp2_with fail
      refine (rcut_any c _ cc (hv xs) _ rfl h2 hml h3).mono ?_
      rintro e w1 ⟨rfl, rfl⟩
      go_wp2
      go_ret
      exact ⟨c, cc, rfl, by omega, h3, hbel⟩
end Go.Proofs.YtfelogbfijomiaaDoor

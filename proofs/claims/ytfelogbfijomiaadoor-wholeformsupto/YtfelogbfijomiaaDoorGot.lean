import Derived.Test.YtfelogbfijomiaaDoorNumberA
import Derived.Test.YtfelogbfijomiaaDoorRefB
namespace Go.Proofs.YtfelogbfijomiaaDoor
open Go.RowKit

theorem sameG {a b : Option Addr} {na nb ca cb B B' : Nat} {x y : Int} {S R : Nat} (w : World) (ha : Got w B (.slice a na ca) x S) (hb : Got w B' (.slice b nb cb) y R) (hxy : x = y) (hS : S ≤ 1000000000000) :
    Calls Tryd.prog 54 #[.slice a na ca, .slice b nb cb] w fun e w' => e = .returned (.bool true) ∧ Below w.heap.size w w' := by
  obtain ⟨xs, h1, h2, h3⟩ := got_eq ha hb hxy
  obtain ⟨r1, r2, r3⟩ := h1.reads
  obtain ⟨s1, s2, s3⟩ := h2.reads
  refine (same_any a b na nb ca cb xs xs w r1 s1 (by omega) r3 s3 rfl).mono ?_
  rintro e w' ⟨rfl, m, rfl⟩
  exact ⟨rfl, belN (Below.refl _ _) m⟩
theorem lnatG (w : World) (r gf cf gw cw n : Nat) (fs ws : List Int) (h : Lnt w r gf cf gw cw n fs ws) :
    Calls Tryd.prog 52 #[.pointer (some ⟨r, 0, none⟩)] w fun e w' => e = .returned (.slice (some ⟨gf, 0, none⟩) n cf) ∧ Below w.heap.size w w' := by
  refine (lnat_any w r gf cf gw cw n fs ws h).mono ?_
  rintro e w' ⟨rfl, m, rfl⟩
  exact ⟨rfl, belN (Below.refl _ _) m⟩

/-! ### half limbs as numbers -/
/-- The slice of half limbs tells x, none of nought at its end. -/
def HNum (w : World) (a : Option Addr) (n cap : Nat) (x : Int) (S : Nat) : Prop := ∃ hs, n = hs.length ∧ n ≤ cap ∧ Reads w a hs ∧ AllH hs ∧ valH hs = x ∧ n ≤ S ∧ tlen hs = hs.length
theorem HNum.below {w w' : World} {a : Option Addr} {n cap : Nat} {x : Int} {S : Nat} (h : HNum w a n cap x S) (hb : Below w.heap.size w w') : HNum w' a n cap x S := by
  obtain ⟨xs, h1, h2, h3, h4⟩ := h
  exact ⟨xs, h1, h2, h3.below hb, h4⟩
theorem HNum.of_trim {w : World} {a : Option Addr} {cap : Nat} {hs : List Int} {S : Nat} (hr : Reads w a hs) (hl : tlen hs ≤ cap) (hh : AllH hs) (hS : tlen hs ≤ S) : HNum w a (tlen hs) cap (valH hs) S :=
  ⟨trimL hs, (length_trimL hs).symm, hl, hr.take _, hh.trim, valH_trimL hs, hS, by rw [tlen_trimL, length_trimL]⟩
theorem halvesV {a : Option Addr} {na ca : Nat} {x : Int} {S : Nat} (w : World) (ha : Num w a na ca x S) (hS : S ≤ 400000000000) :
    Calls Tryd.prog 81 #[.slice a na ca] w fun e w' => ∃ c n cc, e = .returned (.slice c n cc) ∧ HNum w' c n cc x (2 * S) ∧ Below w.heap.size w w' := by
  obtain ⟨xs, a1, a2, a3, a4, a5, a6⟩ := ha
  refine (halves_any a na ca xs w a1 a2 (by omega) a3 a4).mono ?_
  rintro e w' ⟨c, cc, rfl, h1, h2, h3⟩
  have hl : tlen (hv xs) ≤ (hv xs).length := tl_le _ _
  rw [length_hv] at hl
  refine ⟨c, _, cc, rfl, ?_, h3⟩
  rw [← a5, ← valH_hv]
  exact HNum.of_trim h2 h1 (allH_hv a4) (by omega)
theorem numberL {a : Option Addr} {n cap : Nat} (hs : List Int) (w : World) (hn : n = hs.length) (hl : n ≤ cap) (hm : n ≤ 1000000000) (hr : Reads w a hs) (hh : AllH hs) (S : Nat) (hS : n ≤ S) :
    Calls Tryd.prog 82 #[.slice a n cap] w fun e w' => ∃ c nc cc, e = .returned (.slice c nc cc) ∧ Got w' w.heap.size (.slice c nc cc) (valH hs) S ∧ Below w.heap.size w w' := by
  refine (number_any a n cap hs w hn hl hm hr hh).mono ?_
  rintro e w' ⟨c, cc, rfl, h1, h2⟩
  obtain ⟨f1, f2, f3⟩ := nf_numL hh
  exact ⟨c, _, cc, rfl, ⟨_, h1, f1, f2, by omega⟩, h2⟩
theorem numberV {a : Option Addr} {n cap : Nat} {x : Int} {S : Nat} (w : World) (h : HNum w a n cap x S) (hm : S ≤ 1000000000) :
    Calls Tryd.prog 82 #[.slice a n cap] w fun e w' => ∃ c nc cc, e = .returned (.slice c nc cc) ∧ Got w' w.heap.size (.slice c nc cc) x S ∧ Below w.heap.size w w' := by
  obtain ⟨hs, h1, h2, h3, h4, h5, h6, h7⟩ := h
  subst h5
  exact numberL hs w h1 h2 (by omega) h3 h4 S h6

set_option maxHeartbeats 400000 in
/-- A half limb, nought beyond the end. -/
theorem at_any (a : Option Addr) (n cap : Nat) (hs : List Int) (i : Nat) (w : World) (hn : n = hs.length) (hm : n ≤ 1099511627776) (hr : Reads w a hs) :
    Calls Tryd.prog 97 #[.slice a n cap, .int .i64 i] w fun e w' => e = .returned (.int .u64 (lm hs i)) ∧ w = w' := by
  subst hn
  by_cases hi : i < hs.length
  · obtain ⟨b1, o1, rfl, hc1⟩ := hr.at (by omega)
    have h1 := hc1 i hi
    have hil : (i : Int) < (hs.length : Int) := by omega
    clear hc1
    go_enter Tryd.func97, Tryd.ntmps97
    go_wp2
    go_ret
    exact ⟨rfl, rfl⟩
  · have hil : ¬ (i : Int) < (hs.length : Int) := by omega
    rw [lm_ge (by omega)]
    go_enter Tryd.func97, Tryd.ntmps97
    go_wp2
    go_ret
    exact ⟨rfl, rfl⟩
theorem vH_app {F : List Int} {k : Nat} (d : Int) (h : F.length = k) : vH (F ++ [d]) (k + 1) = vH F k + d * pwH k := by
  subst h
  show vH (F ++ [d]) F.length + lm (F ++ [d]) F.length * pwH F.length = _
  rw [lm_append_right (Nat.le_refl _), Nat.sub_self, vH_congr (us := F ++ [d]) (vs := F) (n := F.length) (fun i hi => lm_append_left hi)]
  rfl
theorem allH_app {F : List Int} {d : Int} (h : AllH F) (h0 : 0 ≤ d) (h1 : d < 4294967296) : AllH (F ++ [d]) := h.append (fun x hx => by simp at hx; subst hx; exact ⟨h0, h1⟩)
end Go.Proofs.YtfelogbfijomiaaDoor

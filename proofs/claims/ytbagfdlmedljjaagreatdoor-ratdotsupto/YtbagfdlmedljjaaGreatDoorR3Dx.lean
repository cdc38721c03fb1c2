import Derived.Test.YtbagfdlmedljjaaGreatDoorR3Dw
namespace Go.Proofs.YtbagfdlmedljjaaGreatDoor
open Go.RowKit

theorem tot_add (Z Z' : Nat → Nat) (n : Nat) : tot (fun i => Z i + Z' i) n ≤ tot Z n + tot Z' n := by
  induction n with
  | zero => show 1 ≤ 1 + 1; omega
  | succ n ih => show tot (fun i => Z i + Z' i) n + (Z n + Z' n) + 1 ≤ (tot Z n + Z n + 1) + (tot Z' n + Z' n + 1); omega
/-- RatDots, of lists that came in. -/
theorem dots_call {aA aB : Option Addr} {nA cA nB cB : Nat} {p : Bool} {a : Option Addr} {na ca : Nat} {d : Option Addr} {nd cd : Nat} {X Y : Nat → Rat} {ZA ZB : Nat → Nat} {kq : Rat} {K : Nat} (w : World) (hlA : LQ w aA nA X ZA) (hzA : ∀ i, i < nA → 1 ≤ ZA i ∧ SzR (X i) (ZA i)) (hlB : LQ w aB nB Y ZB) (hzB : ∀ i, i < nB → 1 ≤ ZB i ∧ SzR (Y i) (ZB i)) (hK : TR w p a na ca d nd cd kq K) (hK1 : 1 ≤ K) (hb : tot ZA nA + tot ZB nB + K ≤ 1100000) (hnA : nA ≤ 1100000) (hnB : nB ≤ 1100000) (hT : TB w) {ev : Value} (E : Errs w 1 ev) :
    Calls Tryz.prog 3 #[.slice aA nA cA, .slice aB nB cB, .agg #[.bool p, .slice a na ca, .slice d nd cd]] w fun e w' => e = .returned (.bool true) ∧ Below w.heap.size w w' := by
  refine dots_walk (T := tot ZA nA + tot ZB nB) (q := min nA nB) w hlA hlB hK rfl (fun i hi => ⟨(hzA i hi).1, ?_, (hzA i hi).2⟩) (fun i hi => ⟨(hzB i hi).1, ?_⟩) (hK.sz hK1) hK1 ?_ hb (fun j hj => ?_) (fun j hj => ?_) hnA hnB hT E
  · have := tot_one (Z := ZA) hi; omega
  · have := tot_one (Z := ZB) hi; omega
  · have := tot_pos ZA nA; omega
  · exact (rsum_sz (fun i hi => (hzA i hi).2) j hj).le (by have := tot_mono ZA hj; omega)
  · have h1 := rdot_sz (X := X) (Y := Y) (Z := ZA) (Z' := ZB) (n := min nA nB) (fun i hi => (hzA i (by omega)).2) (fun i hi => (hzB i (by omega)).2) (fun i hi => by have := (hzA i (by omega)).1; omega) j hj
    exact h1.le (by have h2 := tot_add ZA ZB j; have h3 := tot_mono ZA (show j ≤ nA by omega); have h4 := tot_mono ZB (show j ≤ nB by omega); omega)
end Go.Proofs.YtbagfdlmedljjaaGreatDoor

import Derived.Test.YtdfoiklcekhmpaaGreatDoorR5E
namespace Go.Proofs.YtdfoiklcekhmpaaGreatDoor
open Go.RowKit Go.Shelf

theorem signY {z : Int} {s : ByteArray} {i j : Nat} {neg : Bool} (w : World) (hz : z = i) (hj : sgJ s i = j) (hn : sgN s i = neg) (hi : i ≤ s.size) (hs : s.size ≤ 1048576) :
    Calls Tryz.prog 23 #[.string s, .int .i64 z] w fun e w' => e = .returned (.tuple #[.int .i64 j, .bool neg]) ∧ Below w.heap.size w w' := by
  subst hj hn; exact signZ s i w hz hi (by omega)
theorem runY {z : Int} {s : ByteArray} {i j : Nat} {V : Int} (w : World) (hz : z = i) (hj : runE s i = j) (hV : rdF s i (j - i) = V) (hi : i ≤ s.size) (hs : s.size ≤ 1048576) :
    Calls Tryz.prog 24 #[.string s, .int .i64 z] w fun e w' => ∃ c m k, e = .returned (.tuple #[.int .i64 j, .slice c m k]) ∧ Got w' w.heap.size (.slice c m k) V 1048577 ∧ Below w.heap.size w w' := by
  subst hj hV
  have := (run_E s hi).sz
  exact (runZ s i w hz hi (by omega)).mono fun _ _ ⟨c, m, k, h1, h2, h3⟩ => ⟨c, m, k, h1, h2.le (by omega), h3⟩
theorem tensY {z : Int} (n : Nat) (w : World) (hz : z = n) (hn : n ≤ 1048576) :
    Calls Tryz.prog 26 #[.int .i64 z] w fun e w' => ∃ c m k, e = .returned (.slice c m k) ∧ Got w' w.heap.size (.slice c m k) (p10 n) 1048577 ∧ Below w.heap.size w w' := by
  subst hz
  exact (tensD n w (by omega)).mono fun _ _ ⟨c, m, k, h1, h2, h3⟩ => ⟨c, m, k, h1, h2.le (by omega), h3⟩
theorem expY {z : Int} {s : ByteArray} {i : Nat} {e : Int} {d ok : Bool} (w : World) (hz : z = i) (he : exV s i = e) (hd : exD s i = d) (ho : exOk s i = ok) (hi : i ≤ s.size) (hs : s.size ≤ 1048576) :
    Calls Tryz.prog 29 #[.string s, .int .i64 z] w fun e' w' => e' = .returned (.tuple #[.int .i64 e, .bool d, .bool ok]) ∧ Below w.heap.size w w' := by
  subst hz he hd ho; exact expD s i w hi (by omega)
theorem Got.frac {w : World} {B B' : Nat} {neg : Bool} {c d : Option Addr} {n k m l : Nat} {x y : Int} {S : Nat} (h : Got w B (.slice c n k) x S) (g : Got w B' (.slice d m l) y S) : TR w neg c n k d m l (Rat.divInt (ws neg x) y) S := ⟨_, _, ⟨_, h.num, rfl⟩, g.num, rfl⟩
end Go.Proofs.YtdfoiklcekhmpaaGreatDoor

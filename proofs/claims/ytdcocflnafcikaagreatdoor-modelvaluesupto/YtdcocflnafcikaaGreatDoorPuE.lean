import Derived.Test.YtdcocflnafcikaaGreatDoorPuD
import Derived.Test.YtdcocflnafcikaaGreatDoorPqEAll
namespace Go.Proofs.YtdcocflnafcikaaGreatDoor
open Go.RowKit
theorem tv_xn (r:PW) (X:Nat→Rat) (n m k:Nat):tv r (xn X n) m k=tv r X (min n m) k:=by
 unfold tv xn
 by_cases h:0≤(r.t k).var∧(r.t k).var<(m:Int)
 ·rw [if_pos h]
  by_cases h2:(r.t k).var.toNat<n
  ·rw [if_pos h2,if_pos ⟨h.1,by omega⟩]
  ·rw [if_neg h2,if_neg (by omega),Rat.mul_zero]
 ·rw [if_neg h,if_neg (by omega)]
end Go.Proofs.YtdcocflnafcikaaGreatDoor

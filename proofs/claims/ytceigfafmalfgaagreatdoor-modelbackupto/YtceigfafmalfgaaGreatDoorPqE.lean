import Derived.Test.YtceigfafmalfgaaGreatDoorPqAAll
namespace Go.Proofs.YtceigfafmalfgaaGreatDoor
open Go.RowKit
theorem tot_le {Z:Nat→Nat} {n i:Nat} (h:i<n):Z i≤tot Z n:=by have:=tot_one (Z:=Z) h;omega
end Go.Proofs.YtceigfafmalfgaaGreatDoor

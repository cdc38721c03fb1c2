import Derived.Test.YtnkpbjmfdfjeiaaGreatDoorOpRAll
import Derived.Test.YtnkpbjmfdfjeiaaGreatDoorPqCAll
namespace Go.Proofs.YtnkpbjmfdfjeiaaGreatDoor
open Go.RowKit
theorem tot_le {Z:Nat→Nat} {n i:Nat} (h:i < n):Z i≤tot Z n:=by have:=tot_one (Z:=Z) h;omega
end Go.Proofs.YtnkpbjmfdfjeiaaGreatDoor

import Derived.Test.YtlfobaanbmfafaaGreatDoorPqF
import Derived.Test.YtlfobaanbmfafaaGreatDoorWdAll
namespace Go.Proofs.YtlfobaanbmfafaaGreatDoor
open Go.RowKit
theorem pw_lt1 (K:Nat):pw K < pw (K + 1):=by have:=pw_succ K;have:=pw_pos K;omega
end Go.Proofs.YtlfobaanbmfafaaGreatDoor
